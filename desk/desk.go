// Package desk is a tree of windows, and the picture that is seen of it.
package desk

import (
	"casement/api"
	"casement/grid"
)

// Desk is the root with all windows in it.
type Desk struct {
	root *Window
	last int // the number that was given last: none comes twice, so the tree alone does not tell it
}

// New makes a desk of a size that may be, with the root alone.
func New(width, height int) *Desk {
	return &Desk{root: &Window{shown: true, cells: grid.New(width, height)}}
}

// Window tells the window with a number, or nil.
func (d *Desk) Window(number int) *Window { return d.root.find(number) }

// IsFull tells whether no more windows may be made.
func (d *Desk) IsFull() bool { return d.root.count() >= api.MaxWindows }

// Create makes a window of a size that may be, the uppermost in its parent, and tells its number.
func (d *Desk) Create(parent *Window, x, y, width, height int) int {
	d.last++
	made := &Window{number: d.last, x: x, y: y, shown: true, cells: grid.New(width, height)}
	made.enter(parent)
	return made.number
}

// Resize gives the desk, and so the root, another size that may be.
func (d *Desk) Resize(width, height int) { d.root.Shape(width, height) }

// Has tells whether the picture has a cell at this place.
func (d *Desk) Has(x, y int) bool { return d.root.cells.Has(x, y) }

// Cell tells the cell of the picture at a place that it has.
func (d *Desk) Cell(x, y int) api.Cell {
	owner, cell := d.seen(x, y)
	switch cell.Part {
	case api.Head:
		return d.half(owner, cell, x+1, y)
	case api.Tail:
		return d.half(owner, cell, x-1, y)
	}
	return cell
}

// half tells what is seen of one half of a wide letter, when the other half lies at a place.
// A window's own cells never hold a half alone, so it is enough that the owner is seen there, too.
func (d *Desk) half(owner *Window, cell api.Cell, x, y int) api.Cell {
	if d.Has(x, y) {
		if other, _ := d.seen(x, y); other == owner {
			return cell
		}
	}
	return grid.Blank(cell.Pen)
}

// seen tells the owner of a place that the picture has, and what the owner holds there.
func (d *Desk) seen(x, y int) (*Window, api.Cell) {
	owner := d.root
	for {
		next := owner.uppermostAt(x, y)
		if next == nil {
			return owner, owner.cells.Cell(x, y)
		}
		owner = next
		x, y = x-owner.x, y-owner.y
	}
}
