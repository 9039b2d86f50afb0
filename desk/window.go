package desk

import (
	"slices"
	"unicode/utf8"

	"casement/api"
	"casement/bounds"
	"casement/grid"
	"casement/letters"
)

// Window is cells at a place in another window, and the windows that lie in it.
type Window struct {
	number int
	parent *Window // the root has none
	x, y   int
	shown  bool
	cells  *grid.Grid
	inner  []*Window // the lowest first
}

// IsRoot tells whether it is the first window.
func (w *Window) IsRoot() bool { return w.parent == nil }

// IsOrLiesIn tells whether it is another window, or lies in it, however deep.
func (w *Window) IsOrLiesIn(other *Window) bool {
	for around := w; around != nil; around = around.parent {
		if around == other {
			return true
		}
	}
	return false
}

// Delete takes a window that is not the root away, and all windows in it.
func (w *Window) Delete() { w.leave() }

// Move gives a window that is not the root another place.
func (w *Window) Move(x, y int) { w.x, w.y = x, y }

// Shape gives a window another size that may be.
func (w *Window) Shape(width, height int) { w.cells.Resize(width, height) }

// Show shows or hides a window that is not the root.
func (w *Window) Show(shown bool) { w.shown = shown }

// Raise lays a window that is not the root above, or beneath, all others of its parent.
func (w *Window) Raise(up bool) {
	w.leave()
	if up {
		w.enter(w.parent)
		return
	}
	w.parent.inner = slices.Insert(w.parent.inner, 0, w)
}

// Give makes a window that is not the root the uppermost in a parent that is not it, and does not lie in it.
func (w *Window) Give(parent *Window) {
	w.leave()
	w.enter(parent)
}

// leave takes a window out of its parent.
func (w *Window) leave() {
	at := slices.Index(w.parent.inner, w)
	w.parent.inner = slices.Delete(w.parent.inner, at, at+1)
}

// enter makes a window that lies in none the uppermost in a parent.
func (w *Window) enter(parent *Window) {
	w.parent = parent
	parent.inner = append(parent.inner, w)
}

// Write writes the letters of a text one behind the other, as far as they are within the window.
func (w *Window) Write(x, y int, text string, pen api.Pen) {
	if !w.hasLine(y) {
		return
	}
	// Going through a string tells U+FFFD for each byte that is no part of a valid letter.
	for _, letter := range text {
		size := letters.Width(letter)
		if size == 0 {
			letter, size = utf8.RuneError, 1
		}
		w.put(x, y, letter, size, pen)
		x += size
	}
}

// put writes a letter in a line that the window has. Where a part of the letter is outside, what is left is a blank.
func (w *Window) put(x, y int, letter rune, size int, pen api.Pen) {
	if w.cells.Has(x, y) && w.cells.Has(x+size-1, y) {
		w.cells.Put(x, y, letter, pen)
		return
	}
	w.cells.Erase(x, x+size, y, pen)
}

// Fill makes blanks of the cells in a rectangle, as far as they are within the window.
func (w *Window) Fill(x, y, width, height int, pen api.Pen) {
	end := bounds.Least(y+height, w.cells.Height())
	for line := bounds.Greatest(y, 0); line < end; line++ {
		w.cells.Erase(x, x+width, line, pen)
	}
}

// Scroll moves the cells up (down, if lines is below 0); plain blanks come. The windows in it stay.
func (w *Window) Scroll(lines int) {
	w.cells.Scroll(0, w.cells.Height()-1, lines, api.Pen{})
}

func (w *Window) hasLine(y int) bool { return w.cells.Has(0, y) }

// uppermostAt tells the uppermost window that is shown and has a place of this one, or nil.
func (w *Window) uppermostAt(x, y int) *Window {
	for _, inner := range slices.Backward(w.inner) {
		if inner.shown && inner.cells.Has(x-inner.x, y-inner.y) {
			return inner
		}
	}
	return nil
}

// find tells the window with a number: this one, or one that lies in it, or nil.
func (w *Window) find(number int) *Window {
	if w.number == number {
		return w
	}
	for _, inner := range w.inner {
		if found := inner.find(number); found != nil {
			return found
		}
	}
	return nil
}

// count tells how many windows there are, this one and all that lie in it.
func (w *Window) count() int {
	sum := 1
	for _, inner := range w.inner {
		sum += inner.count()
	}
	return sum
}
