// Package screen is a terminal that takes any bytes.
package screen

import (
	"casement/api"
	"casement/bounds"
	"casement/grid"
	"casement/letters"
)

// Screen is cells, a cursor, a pen and margins, and what is known of a letter or a sequence that is not whole yet.
type Screen struct {
	cells       *grid.Grid
	x, y        int
	pending     bool
	pen         api.Pen
	top, bottom int

	mode     mode
	begun    letters.Begun // in the ground mode alone
	sequence sequence      // in the mode inSequence alone
}

// New makes a screen of a size that may be.
func New(width, height int) *Screen {
	return &Screen{cells: grid.New(width, height), bottom: height - 1}
}

// Clone makes another screen that is like it in all.
func (s *Screen) Clone() *Screen {
	clone := *s
	clone.cells = s.cells.Clone()
	return &clone
}

// Resize gives it another size that may be. The pen, and a letter or a sequence that is begun, stay.
func (s *Screen) Resize(width, height int) {
	s.cells.Resize(width, height)
	s.top, s.bottom = 0, height-1
	s.goTo(s.x, s.y)
}

// Has tells whether there is a cell at this place.
func (s *Screen) Has(x, y int) bool { return s.cells.Has(x, y) }

// Cell tells the cell at a place that the screen has.
func (s *Screen) Cell(x, y int) api.Cell { return s.cells.Cell(x, y) }

// State tells all but the cells.
func (s *Screen) State() api.State {
	return api.State{
		Width:   s.cells.Width(),
		Height:  s.cells.Height(),
		X:       s.x,
		Y:       s.y,
		Pending: s.pending,
		Pen:     s.pen,
		Top:     s.top,
		Bottom:  s.bottom,
		Ground:  s.mode == ground && s.begun.Empty(),
	}
}

// goTo brings the cursor to a place, or as near to it as the screen goes.
func (s *Screen) goTo(x, y int) {
	s.x = bounds.Between(x, 0, s.cells.Width()-1)
	s.y = bounds.Between(y, 0, s.cells.Height()-1)
	s.pending = false
}

func (s *Screen) lineFeed() {
	s.pending = false
	if s.y == s.bottom {
		s.scroll(1)
		return
	}
	// Outside the margins nothing scrolls, so the last line is where the cursor stays.
	s.y = bounds.Least(s.y+1, s.cells.Height()-1)
}

func (s *Screen) scroll(lines int) {
	s.cells.Scroll(s.top, s.bottom, lines, s.eraser())
}

// eraser is the pen of what is erased.
func (s *Screen) eraser() api.Pen { return api.Pen{Back: s.pen.Back} }

// put writes a letter at the cursor.
func (s *Screen) put(letter rune) {
	size := letters.Width(letter)
	if size == 0 {
		return
	}
	width := s.cells.Width()
	if size > width {
		letter, size = ' ', 1
	}
	if s.pending || s.x+size > width {
		s.x = 0
		s.lineFeed()
	}
	s.cells.Put(s.x, s.y, letter, s.pen)
	s.pending = s.x+size == width
	s.x = bounds.Least(s.x+size, width-1)
}
