package casement_test

import (
	"maps"
	"slices"
	"strings"
	"testing"
	"unicode/utf8"

	"casement/api"
	"casement/casement"
)

// model is a desk the slow way: its windows lie in one flat list, and the picture is painted from the lowest to the uppermost.
type model struct {
	windows []*modelled // the lower of two windows of one parent first
	made    int
}

type modelled struct {
	number, parent      int
	x, y, width, height int
	shown               bool
	cells               map[[2]int]api.Cell // what is not there is a plain blank
}

// inked is a cell of the painted picture, with who painted it, and where in the painter it lies.
type inked struct {
	cell  api.Cell
	owner int
	x, y  int
}

func newModel(width, height int) *model {
	return &model{windows: []*modelled{{parent: -1, width: width, height: height, shown: true, cells: map[[2]int]api.Cell{}}}}
}

func (m *model) at(number int) *modelled {
	for _, w := range m.windows {
		if w.number == number {
			return w
		}
	}
	return nil
}

func (m *model) create(parent, x, y, width, height int) {
	m.made++
	m.windows = append(m.windows, &modelled{m.made, parent, x, y, width, height, true, map[[2]int]api.Cell{}})
}

func (m *model) remove(number int) {
	m.windows = slices.DeleteFunc(m.windows, func(w *modelled) bool { return w.number == number })
	for _, w := range slices.Clone(m.windows) {
		if w.parent == number {
			m.remove(w.number)
		}
	}
}

func (m *model) lay(number int, up bool) {
	w := m.at(number)
	m.windows = slices.DeleteFunc(m.windows, func(other *modelled) bool { return other == w })
	at := 0
	if up {
		at = len(m.windows)
	}
	m.windows = slices.Insert(m.windows, at, w)
}

func (w *modelled) cell(x, y int) api.Cell {
	if c, there := w.cells[[2]int{x, y}]; there {
		return c
	}
	return api.Cell{Rune: ' '}
}

// set writes a cell, if the window has it.
func (w *modelled) set(x, y int, c api.Cell) {
	if 0 <= x && x < w.width && 0 <= y && y < w.height {
		w.cells[[2]int{x, y}] = c
	}
}

// mend drops what is outside, and makes blanks of all halves that are alone.
func (w *modelled) mend() {
	maps.DeleteFunc(w.cells, func(place [2]int, c api.Cell) bool {
		return place[0] >= w.width || place[1] < 0 || place[1] >= w.height
	})
	alone := map[[2]int]api.Cell{}
	for place, c := range w.cells {
		if c.Part != api.Whole && w.cell(place[0]+beside[c.Part], place[1]) != otherHalf(c) {
			alone[place] = api.Cell{Rune: ' ', Pen: c.Pen}
		}
	}
	maps.Copy(w.cells, alone)
}

// beside tells where the other half of a part lies.
var beside = map[api.Part]int{api.Head: 1, api.Tail: -1}

func otherHalf(c api.Cell) api.Cell {
	c.Part = api.Head + api.Tail - c.Part
	return c
}

func (w *modelled) write(x, y int, text string, pen api.Pen) {
	for text != "" {
		r, size := utf8.DecodeRuneInString(text)
		text = text[size:]
		width := casement.Width(r)
		if width == 0 {
			r, width = 0xfffd, 1
		}
		if width == 1 {
			w.set(x, y, api.Cell{Rune: r, Pen: pen})
		} else {
			w.set(x, y, api.Cell{Rune: r, Part: api.Head, Pen: pen})
			w.set(x+1, y, api.Cell{Rune: r, Part: api.Tail, Pen: pen})
		}
		w.mend()
		x += width
	}
}

func (w *modelled) fill(x, y, width, height int, pen api.Pen) {
	for line := range height {
		for column := range width {
			w.set(x+column, y+line, api.Cell{Rune: ' ', Pen: pen})
		}
	}
	w.mend()
}

func (w *modelled) scroll(count int) {
	moved := map[[2]int]api.Cell{}
	for place, c := range w.cells {
		moved[[2]int{place[0], place[1] - count}] = c
	}
	w.cells = moved
	w.mend()
}

func (w *modelled) shape(width, height int) {
	w.width, w.height = width, height
	w.mend()
}

// paint paints a window and all in it, where the picture has a place and lets it be painted.
func (m *model) paint(picture map[[2]int]inked, w *modelled, x, y int, free func(x, y int) bool) {
	within := func(px, py int) bool {
		return x <= px && px < x+w.width && y <= py && py < y+w.height && free(px, py)
	}
	for wy := range w.height {
		for wx := range w.width {
			if within(x+wx, y+wy) {
				picture[[2]int{x + wx, y + wy}] = inked{w.cell(wx, wy), w.number, wx, wy}
			}
		}
	}
	for _, inner := range m.windows {
		if inner.parent == w.number && inner.shown {
			m.paint(picture, inner, x+inner.x, y+inner.y, within)
		}
	}
}

// picture tells all cells, line behind line.
func (m *model) picture() []api.Cell {
	root := m.at(0)
	painted := map[[2]int]inked{}
	m.paint(painted, root, 0, 0, func(x, y int) bool { return true })
	var all []api.Cell
	for y := range root.height {
		for x := range root.width {
			p := painted[[2]int{x, y}]
			step := beside[p.cell.Part]
			other := inked{otherHalf(p.cell), p.owner, p.x + step, p.y}
			if step != 0 && painted[[2]int{x + step, y}] != other {
				p.cell = api.Cell{Rune: ' ', Pen: p.cell.Pen}
			}
			all = append(all, p.cell)
		}
	}
	return all
}

var scraps = []string{"a", "b", "中", "国", "é", "\u0301", "\xff", "\xe4\xb8", "\n", " ", "\U0001f600"}

func scrawl(d *dice) string {
	var text strings.Builder
	for range d.below(8) {
		text.WriteString(scraps[d.below(len(scraps))])
	}
	return text.String()
}

func anyPen(d *dice) api.Pen {
	return api.Pen{Front: d.below(3), Back: d.below(3), Bold: d.below(4) == 0}
}

// thrown is what a call may be given.
type thrown struct {
	kind, window, parent, x, y, width, height int
	yes                                       bool
	text                                      string
	pen                                       api.Pen
}

func throw(d *dice, made int) thrown {
	return thrown{
		kind: d.below(13), window: d.below(made + 2), parent: d.below(made + 2),
		x: d.below(13) - 4, y: d.below(9) - 3, width: d.below(8), height: d.below(6),
		yes: d.below(2) == 0, text: scrawl(d), pen: anyPen(d),
	}
}

// resizing is the kind of call that a screen which shows the desk has to follow.
const resizing = 7

// call does one thing to a desk, and tells what is to be done to its model if the desk has taken it.
func call(desk *casement.Desk, m *model, a thrown) (api.Errno, func(w *modelled)) {
	switch a.kind {
	case 0:
		_, e := desk.Create(a.parent, a.x, a.y, a.width, a.height)
		return e, func(*modelled) { m.create(a.parent, a.x, a.y, a.width, a.height) }
	case 1:
		// Windows come and go, but more of them come.
		if a.yes {
			return desk.Delete(a.window), func(*modelled) { m.remove(a.window) }
		}
	case 2:
		return desk.Move(a.window, a.x, a.y), func(w *modelled) { w.x, w.y = a.x, a.y }
	case 3:
		return desk.Shape(a.window, a.width, a.height), func(w *modelled) { w.shape(a.width, a.height) }
	case 4:
		return desk.Raise(a.window, a.yes), func(*modelled) { m.lay(a.window, a.yes) }
	case 5:
		return desk.Show(a.window, a.yes), func(w *modelled) { w.shown = a.yes }
	case 6:
		return desk.Give(a.window, a.parent), func(w *modelled) { w.parent = a.parent; m.lay(a.window, true) }
	case resizing:
		return desk.Resize(a.width, a.height), func(*modelled) { m.at(0).shape(a.width, a.height) }
	case 8:
		return desk.Scroll(a.window, a.y), func(w *modelled) { w.scroll(a.y) }
	case 9:
		return desk.Fill(a.window, a.x, a.y, a.width, a.height, a.pen), func(w *modelled) { w.fill(a.x, a.y, a.width, a.height, a.pen) }
	}
	return desk.Write(a.window, a.x, a.y, a.text, a.pen), func(w *modelled) { w.write(a.x, a.y, a.text, a.pen) }
}

func TestP10ThePictureIsThatOfTheModel(t *testing.T) {
	d := dice(23)
	for range 150 {
		width, height := 1+d.below(7), 1+d.below(5)
		desk, m := opened(t, width, height), newModel(width, height)
		var did []thrown
		for range 60 {
			a := throw(&d, m.made)
			if e, follow := call(desk, m, a); e == api.OK {
				follow(m.at(a.window))
				did = append(did, a)
			}
			if got, want := cells(desk), m.picture(); !slices.Equal(got, want) {
				t.Fatalf("%d by %d, after %+v: the picture is %q, %+v, want %+v", width, height, did, lines(desk), got, want)
			}
			wantSound(t, desk)
		}
	}
}

// wantSound wants every half that is seen to have its other half beside it.
func wantSound(t *testing.T, d *casement.Desk) {
	t.Helper()
	for y, row := range rows(d) {
		for x := range row {
			if !soundAt(d, x, y) {
				t.Fatalf("the cell %d, %d of %q", x, y, lines(d))
			}
		}
	}
}
