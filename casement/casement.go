// Package casement shows windows in windows on a terminal. See DOC.md.
package casement

import (
	"casement/api"
	"casement/grid"
	"casement/letters"
	"casement/screen"
)

// Width tells how many cells a letter takes (P3).
func Width(r rune) int { return letters.Width(r) }

// Screen is a terminal.
type Screen struct {
	inner *screen.Screen
}

// NewScreen makes one (P4).
func NewScreen(width int, height int) (*Screen, api.Errno) {
	if !grid.MayBe(width, height) {
		return nil, api.ErrSize
	}
	return &Screen{inner: screen.New(width, height)}, api.OK
}

// isNone tells whether there is no screen: a nil one, or one that NewScreen did not make.
func (s *Screen) isNone() bool { return s == nil || s.inner == nil }

// Feed lets bytes come (P5).
func (s *Screen) Feed(bytes string) {
	if !s.isNone() {
		s.inner.Feed(bytes)
	}
}

// Resize gives it another size (P4).
func (s *Screen) Resize(width int, height int) api.Errno {
	if s.isNone() {
		return api.ErrWindow
	}
	if !grid.MayBe(width, height) {
		return api.ErrSize
	}
	s.inner.Resize(width, height)
	return api.OK
}

// Cell tells a cell (P4).
func (s *Screen) Cell(x int, y int) (api.Cell, api.Errno) {
	if s.isNone() {
		return api.Cell{}, api.ErrWindow
	}
	if !s.inner.Has(x, y) {
		return api.Cell{}, api.ErrPlace
	}
	return s.inner.Cell(x, y), api.OK
}

// State tells the rest (P4).
func (s *Screen) State() api.State {
	if s.isNone() {
		return api.State{}
	}
	return s.inner.State()
}

// Desk is windows in windows.
type Desk struct{}

// NewDesk makes one, with a first window (P7).
func NewDesk(width int, height int) (*Desk, api.Errno) { return nil, api.OK }

// Create makes a window (P8).
func (d *Desk) Create(parent int, x int, y int, width int, height int) (int, api.Errno) {
	return 0, api.OK
}

// Delete takes a window away, and all in it (P8).
func (d *Desk) Delete(window int) api.Errno { return api.OK }

// Move moves a window (P8).
func (d *Desk) Move(window int, x int, y int) api.Errno { return api.OK }

// Shape gives a window another size (P8).
func (d *Desk) Shape(window int, width int, height int) api.Errno { return api.OK }

// Raise lays a window on top, or, if not up, beneath all others of its parent (P8).
func (d *Desk) Raise(window int, up bool) api.Errno { return api.OK }

// Show shows or hides a window (P8).
func (d *Desk) Show(window int, shown bool) api.Errno { return api.OK }

// Give gives a window another parent (P8).
func (d *Desk) Give(window int, parent int) api.Errno { return api.OK }

// Write writes a text into a window (P9).
func (d *Desk) Write(window int, x int, y int, text string, pen api.Pen) api.Errno { return api.OK }

// Fill fills a part of a window with blanks (P9).
func (d *Desk) Fill(window int, x int, y int, width int, height int, pen api.Pen) api.Errno {
	return api.OK
}

// Scroll moves what a window holds up, or down (P9).
func (d *Desk) Scroll(window int, lines int) api.Errno { return api.OK }

// Resize gives the desk another size (P10).
func (d *Desk) Resize(width int, height int) api.Errno { return api.OK }

// Cell tells a cell of the picture (P10).
func (d *Desk) Cell(x int, y int) (api.Cell, api.Errno) { return api.Cell{}, api.OK }

// Flush tells the bytes that make a terminal show the picture (P11).
func (d *Desk) Flush() string { return "" }
