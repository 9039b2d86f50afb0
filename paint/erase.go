package paint

import (
	"casement/api"
	"casement/grid"
)

// erasure tells the sequence that erases what is to be blank from a place on, or nothing if to write it takes no more bytes.
func (p *painter) erasure(x, y int) string {
	line := p.picture[y]
	blank := line[x]
	if blank != grid.Blank(api.Pen{Back: blank.Pen.Back}) {
		return ""
	}
	bytes := sequence("K")
	size := alike(line[x:])
	switch {
	case x+size < len(line):
		bytes = sequence("X", count(size))
	case isAll(p.picture[y+1:], blank):
		size += len(line) * len(p.picture[y+1:])
		bytes = sequence("J")
	}
	if len(bytes) < p.span(x, y, size) {
		return bytes
	}
	return ""
}

// span tells how many of so many cells, line behind line from one that differs on, there are up to the last one that differs.
func (p *painter) span(x, y, size int) int {
	width := len(p.picture[y])
	for size > 1 && !p.differs((x+size-1)%width, y+(x+size-1)/width) {
		size--
	}
	return size
}

// alike tells how many cells there are from the first one on that are like it.
func alike(cells []api.Cell) int {
	n := 0
	for n < len(cells) && cells[n] == cells[0] {
		n++
	}
	return n
}

// isAll tells whether lines have no other cell than this one.
func isAll(lines [][]api.Cell, cell api.Cell) bool {
	for _, line := range lines {
		if line[0] != cell || alike(line) < len(line) {
			return false
		}
	}
	return true
}
