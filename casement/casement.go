// Package casement shows windows in windows on a terminal. See DOC.md.
package casement

import (
	"casement/api"
	"casement/grid"
	"casement/letters"
	"casement/screen"
)

// Width tells how many cells a letter takes (P3).
func Width(r rune) int { return letters.Width(r) }

// Screen is a terminal.
type Screen struct {
	inner *screen.Screen
}

// NewScreen makes one (P4).
func NewScreen(width int, height int) (*Screen, api.Errno) {
	if !grid.MayBe(width, height) {
		return nil, api.ErrSize
	}
	return &Screen{inner: screen.New(width, height)}, api.OK
}

// isNone tells whether there is no screen: a nil one, or one that NewScreen did not make.
func (s *Screen) isNone() bool { return s == nil || s.inner == nil }

// Feed lets bytes come (P5).
func (s *Screen) Feed(bytes string) {
	if !s.isNone() {
		s.inner.Feed(bytes)
	}
}

// Resize gives it another size (P4).
func (s *Screen) Resize(width int, height int) api.Errno {
	if s.isNone() {
		return api.ErrWindow
	}
	if !grid.MayBe(width, height) {
		return api.ErrSize
	}
	s.inner.Resize(width, height)
	return api.OK
}

// Cell tells a cell (P4).
func (s *Screen) Cell(x int, y int) (api.Cell, api.Errno) {
	if s.isNone() {
		return api.Cell{}, api.ErrWindow
	}
	if !s.inner.Has(x, y) {
		return api.Cell{}, api.ErrPlace
	}
	return s.inner.Cell(x, y), api.OK
}

// State tells the rest (P4).
func (s *Screen) State() api.State {
	if s.isNone() {
		return api.State{}
	}
	return s.inner.State()
}
