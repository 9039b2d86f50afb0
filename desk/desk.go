// Package desk is a tree of windows, and the picture that is seen of it.
package desk

import (
	"casement/api"
	"casement/grid"
	"casement/paint"
	"casement/screen"
)

// Desk is the root with all windows in it, and what a terminal shows of them.
type Desk struct {
	root  *Window
	last  int            // the number that was given last: none comes twice, so the tree alone does not tell it
	shown *screen.Screen // as one is that was fed all that Flush has told, and resized whenever the desk was
}

// New makes a desk of a size that may be, with the root alone.
func New(width, height int) *Desk {
	root := &Window{shown: true, cells: grid.New(width, height)}
	return &Desk{root: root, shown: screen.New(width, height)}
}

// Window tells the window with a number, or nil.
func (d *Desk) Window(number int) *Window { return d.root.find(number) }

// IsFull tells whether no more windows may be made.
func (d *Desk) IsFull() bool { return d.root.count() >= api.MaxWindows }

// Create makes a window of a size that may be, the uppermost in its parent, and tells its number.
func (d *Desk) Create(parent *Window, x, y, width, height int) int {
	d.last++
	made := &Window{number: d.last, x: x, y: y, shown: true, cells: grid.New(width, height)}
	made.enter(parent)
	return made.number
}

// Resize gives the desk, and so the root, another size that may be.
func (d *Desk) Resize(width, height int) {
	d.root.Shape(width, height)
	d.shown.Resize(width, height)
}

// Flush tells the bytes that make a terminal, which was told all from the first one on, show the picture.
func (d *Desk) Flush() string {
	bytes := paint.Bytes(d.shown, d.picture())
	d.shown.Feed(bytes)
	return bytes
}

// picture tells all cells of the picture, line by line.
func (d *Desk) picture() [][]api.Cell {
	lines := make([][]api.Cell, d.root.cells.Height())
	for y := range lines {
		lines[y] = make([]api.Cell, d.root.cells.Width())
		for x := range lines[y] {
			lines[y][x] = d.Cell(x, y)
		}
	}
	return lines
}

// Has tells whether the picture has a cell at this place.
func (d *Desk) Has(x, y int) bool { return d.root.cells.Has(x, y) }

// Cell tells the cell of the picture at a place that it has.
func (d *Desk) Cell(x, y int) api.Cell {
	owner, cell := d.seen(x, y)
	switch cell.Part {
	case api.Head:
		return d.half(owner, cell, x+1, y)
	case api.Tail:
		return d.half(owner, cell, x-1, y)
	}
	return cell
}

// half tells what is seen of one half of a wide letter, when the other half lies at a place.
// A window's own cells never hold a half alone, so it is enough that the owner is seen there, too.
func (d *Desk) half(owner *Window, cell api.Cell, x, y int) api.Cell {
	if d.Has(x, y) {
		if other, _ := d.seen(x, y); other == owner {
			return cell
		}
	}
	return grid.Blank(cell.Pen)
}

// seen tells the owner of a place that the picture has, and what the owner holds there.
func (d *Desk) seen(x, y int) (*Window, api.Cell) {
	owner := d.root
	for {
		next := owner.uppermostAt(x, y)
		if next == nil {
			return owner, owner.cells.Cell(x, y)
		}
		owner = next
		x, y = x-owner.x, y-owner.y
	}
}
