package casement

import (
	"casement/api"
	"casement/bounds"
	"casement/desk"
	"casement/grid"
)

// Desk is windows in windows.
type Desk struct {
	inner *desk.Desk
}

// NewDesk makes one, with a first window (P7).
func NewDesk(width int, height int) (*Desk, api.Errno) {
	if !grid.MayBe(width, height) {
		return nil, api.ErrSize
	}
	return &Desk{inner: desk.New(width, height)}, api.OK
}

// isNone tells whether there is no desk: a nil one, or one that NewDesk did not make.
func (d *Desk) isNone() bool { return d == nil || d.inner == nil }

// Create makes a window (P8).
func (d *Desk) Create(parent int, x int, y int, width int, height int) (int, api.Errno) {
	in := d.find(parent)
	switch {
	case in == nil:
		return 0, api.ErrWindow
	case !placeMayBe(x, y):
		return 0, api.ErrPlace
	case !grid.MayBe(width, height):
		return 0, api.ErrSize
	case d.inner.IsFull():
		return 0, api.ErrFull
	}
	return d.inner.Create(in, x, y, width, height), api.OK
}

// Delete takes a window away, and all in it (P8).
func (d *Desk) Delete(window int) api.Errno {
	w, e := d.findBelowRoot(window)
	if e == api.OK {
		w.Delete()
	}
	return e
}

// Move moves a window (P8).
func (d *Desk) Move(window int, x int, y int) api.Errno {
	w, e := d.findBelowRoot(window)
	switch {
	case e != api.OK:
		return e
	case !placeMayBe(x, y):
		return api.ErrPlace
	}
	w.Move(x, y)
	return api.OK
}

// Shape gives a window another size (P8).
func (d *Desk) Shape(window int, width int, height int) api.Errno {
	w, e := d.findBelowRoot(window)
	switch {
	case e != api.OK:
		return e
	case !grid.MayBe(width, height):
		return api.ErrSize
	}
	w.Shape(width, height)
	return api.OK
}

// Raise lays a window on top, or, if not up, beneath all others of its parent (P8).
func (d *Desk) Raise(window int, up bool) api.Errno {
	w, e := d.findBelowRoot(window)
	if e == api.OK {
		w.Raise(up)
	}
	return e
}

// Show shows or hides a window (P8).
func (d *Desk) Show(window int, shown bool) api.Errno {
	w, e := d.findBelowRoot(window)
	if e == api.OK {
		w.Show(shown)
	}
	return e
}

// Give gives a window another parent (P8).
func (d *Desk) Give(window int, parent int) api.Errno {
	to := d.find(parent)
	if to == nil {
		return api.ErrWindow
	}
	w, e := d.findBelowRoot(window)
	switch {
	case e != api.OK:
		return e
	case to.IsOrLiesIn(w):
		return api.ErrLoop
	}
	w.Give(to)
	return api.OK
}

// Write writes a text into a window (P9).
func (d *Desk) Write(window int, x int, y int, text string, pen api.Pen) api.Errno {
	w := d.find(window)
	switch {
	case w == nil:
		return api.ErrWindow
	case !placeMayBe(x, y):
		return api.ErrPlace
	case len(text) > api.MaxText:
		return api.ErrText
	case !penMayBe(pen):
		return api.ErrPen
	}
	w.Write(x, y, text, pen)
	return api.OK
}

// Fill fills a part of a window with blanks (P9).
func (d *Desk) Fill(window int, x int, y int, width int, height int, pen api.Pen) api.Errno {
	w := d.find(window)
	switch {
	case w == nil:
		return api.ErrWindow
	case !placeMayBe(x, y):
		return api.ErrPlace
	case !rectangleMayBe(width, height):
		return api.ErrSize
	case !penMayBe(pen):
		return api.ErrPen
	}
	w.Fill(x, y, width, height, pen)
	return api.OK
}

// Scroll moves what a window holds up, or down (P9).
func (d *Desk) Scroll(window int, lines int) api.Errno {
	w := d.find(window)
	if w == nil {
		return api.ErrWindow
	}
	w.Scroll(lines)
	return api.OK
}

// Resize gives the desk another size (P10).
func (d *Desk) Resize(width int, height int) api.Errno {
	if d.isNone() {
		return api.ErrWindow
	}
	if !grid.MayBe(width, height) {
		return api.ErrSize
	}
	d.inner.Resize(width, height)
	return api.OK
}

// Cell tells a cell of the picture (P10).
func (d *Desk) Cell(x int, y int) (api.Cell, api.Errno) {
	if d.isNone() {
		return api.Cell{}, api.ErrWindow
	}
	if !d.inner.Has(x, y) {
		return api.Cell{}, api.ErrPlace
	}
	return d.inner.Cell(x, y), api.OK
}

// Flush tells the bytes that make a terminal show the picture (P11).
func (d *Desk) Flush() string {
	if d.isNone() {
		return ""
	}
	return d.inner.Flush()
}

// find tells the window with a number, or nil.
func (d *Desk) find(number int) *desk.Window {
	if d.isNone() {
		return nil
	}
	return d.inner.Window(number)
}

// findBelowRoot tells the window with a number, or why it is none that lies in another.
func (d *Desk) findBelowRoot(number int) (*desk.Window, api.Errno) {
	w := d.find(number)
	switch {
	case w == nil:
		return nil, api.ErrWindow
	case w.IsRoot():
		return nil, api.ErrRoot
	}
	return w, api.OK
}

// placeMayBe tells whether something may lie, or be written, at a place of a window.
func placeMayBe(x, y int) bool {
	return bounds.Within(x, -api.MaxPlace, api.MaxPlace) && bounds.Within(y, -api.MaxPlace, api.MaxPlace)
}

// rectangleMayBe tells whether something of this size may be filled: unlike a window, it may be empty.
func rectangleMayBe(width, height int) bool {
	return bounds.Within(width, 0, api.MaxPlace) && bounds.Within(height, 0, api.MaxPlace)
}

func penMayBe(pen api.Pen) bool {
	return bounds.Within(pen.Front, 0, api.Colours-1) && bounds.Within(pen.Back, 0, api.Colours-1)
}
