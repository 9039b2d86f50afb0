// Package grid holds cells in lines, and sees to it that no half of a wide letter is left without the other.
package grid

import (
	"slices"

	"casement/api"
	"casement/bounds"
	"casement/letters"
)

// Grid is a rectangle of cells.
type Grid struct {
	width, height int
	cells         []api.Cell // line behind line
}

// MayBe tells whether a grid may have this size.
func MayBe(width, height int) bool {
	return bounds.Within(width, 1, api.MaxWidth) && bounds.Within(height, 1, api.MaxHeight)
}

// Blank is an empty cell with a pen.
func Blank(pen api.Pen) api.Cell {
	return api.Cell{Rune: ' ', Part: api.Whole, Pen: pen}
}

// New makes a grid of plain blanks, of a size that may be.
func New(width, height int) *Grid {
	g := &Grid{width: width, height: height, cells: make([]api.Cell, width*height)}
	fill(g.cells, api.Pen{})
	return g
}

// Clone makes another grid with the same cells.
func (g *Grid) Clone() *Grid {
	return &Grid{width: g.width, height: g.height, cells: slices.Clone(g.cells)}
}

// Width tells how many columns it has.
func (g *Grid) Width() int { return g.width }

// Height tells how many lines it has.
func (g *Grid) Height() int { return g.height }

// Has tells whether there is a cell at this place.
func (g *Grid) Has(x, y int) bool {
	return bounds.Within(x, 0, g.width-1) && bounds.Within(y, 0, g.height-1)
}

// Cell tells the cell at a place that the grid has.
func (g *Grid) Cell(x, y int) api.Cell {
	return g.cells[y*g.width+x]
}

// Put writes a letter of width 1 or 2 at a place where all of it is within the grid.
func (g *Grid) Put(x, y int, letter rune, pen api.Pen) {
	if letters.Width(letter) == 2 {
		halves := g.part(x, x+2, y)
		halves[0] = api.Cell{Rune: letter, Part: api.Head, Pen: pen}
		halves[1] = api.Cell{Rune: letter, Part: api.Tail, Pen: pen}
		return
	}
	g.part(x, x+1, y)[0] = api.Cell{Rune: letter, Part: api.Whole, Pen: pen}
}

// Erase makes blanks of the cells of a line from one column up to, not with, another, as far as the line goes.
func (g *Grid) Erase(from, to, y int, pen api.Pen) {
	from = bounds.Greatest(from, 0)
	to = bounds.Least(to, g.width)
	if from < to {
		fill(g.part(from, to, y), pen)
	}
}

// Scroll moves the lines from first to last up (down, if lines is below 0); blanks with the pen come.
func (g *Grid) Scroll(first, last, lines int, pen api.Pen) {
	count := last - first + 1
	by := bounds.Between(lines, -count, count) * g.width
	block := g.cells[first*g.width : (last+1)*g.width]
	if by >= 0 {
		copy(block, block[by:])
		fill(block[len(block)-by:], pen)
		return
	}
	copy(block[-by:], block)
	fill(block[:-by], pen)
}

// Resize gives the grid another size that may be: what is within it stays, what is new are plain blanks.
func (g *Grid) Resize(width, height int) {
	next := New(width, height)
	columns := bounds.Least(width, g.width)
	for y := range bounds.Least(height, g.height) {
		copy(next.line(y), g.part(0, columns, y))
	}
	*g = *next
}

func (g *Grid) line(y int) []api.Cell {
	return g.cells[y*g.width : (y+1)*g.width]
}

// part hands out a stretch of a line for writing. The wide letters across its two ends are broken first:
// one half is about to be lost, and the other half must not stay alone.
func (g *Grid) part(from, to, y int) []api.Cell {
	line := g.line(y)
	cut(line, from)
	cut(line, to)
	return line[from:to]
}

// cut breaks a wide letter that lies across the left edge of a column.
func cut(line []api.Cell, column int) {
	if !bounds.Within(column, 1, len(line)-1) || line[column].Part != api.Tail {
		return
	}
	line[column-1] = Blank(line[column-1].Pen)
	line[column] = Blank(line[column].Pen)
}

func fill(cells []api.Cell, pen api.Pen) {
	for i := range cells {
		cells[i] = Blank(pen)
	}
}
