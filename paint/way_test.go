package paint

import (
	"container/heap"
	"slices"
	"testing"

	"casement/api"
	"casement/screen"
)

// written makes a screen with letters in it, and brings its cursor to a place by what is told last.
func written(width, height int, told ...string) *screen.Screen {
	s := screen.New(width, height)
	for _, bytes := range told {
		s.Feed(bytes)
	}
	return s
}

// cells tells all cells of a screen, line by line.
func cells(s *screen.Screen) [][]api.Cell {
	state := s.State()
	lines := make([][]api.Cell, state.Height)
	for y := range lines {
		for x := range state.Width {
			lines[y] = append(lines[y], s.Cell(x, y))
		}
	}
	return lines
}

func sameCells(a, b [][]api.Cell) bool {
	return slices.EqualFunc(a, b, slices.Equal)
}

func TestTheHeapGivesTheFewestBytesFirst(t *testing.T) {
	open := &ways{}
	for _, bytes := range []string{"333", "1", "", "4444", "22", "55555"} {
		heap.Push(open, way{bytes: bytes})
	}
	for want := range 6 {
		if got := heap.Pop(open).(way).bytes; len(got) != want {
			t.Errorf("%q came, want %d bytes", got, want)
		}
	}
}

func TestRouteTakesFewBytes(t *testing.T) {
	const text = "abcdefghij"
	filled := text + text + text + text
	for _, c := range []struct {
		what, told string
		to         goal
		want       string
	}{
		{"there already", "\x1b[2;3H", goal{x: 2, y: 1, letter: true}, ""},
		{"home", "\x1b[4;9H", goal{x: 0, y: 0, letter: true}, "\x1b[H"},
		{"a line's begin, far", "\x1b[H", goal{x: 0, y: 3, letter: true}, "\n\n\n"},
		{"the first line, far", "\x1b[4H", goal{x: 8, y: 0, letter: true}, "\x1b[;9H"},
		{"far", "\x1b[4;2H", goal{x: 8, y: 1, letter: true}, "\x1b[2;9H"},
		{"one to the left", "\x1b[2;9H", goal{x: 7, y: 1, letter: true}, "\b"},
		{"four to the left", "\x1b[2;9H", goal{x: 4, y: 1, letter: true}, "\b\b\b\b"},
		{"many to the left", "\x1b[2;10H", goal{x: 4, y: 1, letter: true}, "\x1b[5D"},
		{"the line's begin", "\x1b[2;9H", goal{x: 0, y: 1, letter: true}, "\r"},
		{"near the line's begin", "\x1b[2;9H", goal{x: 1, y: 1, letter: true}, "\ra"},
		{"over letters", "\x1b[2;2H", goal{x: 4, y: 1, letter: true}, "bcd"},
		{"one down", "\x1b[2;5H", goal{x: 4, y: 2, letter: true}, "\n"},
		{"down and left", "\x1b[2;5H", goal{x: 3, y: 3, letter: true}, "\n\n\b"},
		{"one up", "\x1b[3;5H", goal{x: 4, y: 1, letter: true}, "\x1b[A"},
		{"up in the first column", "\x1b[4H", goal{x: 0, y: 1, letter: true}, "\x1b[2H"},
		{"the next line of itself", "\x1b[2;10Hj", goal{x: 0, y: 2, letter: true}, ""},
		{"the next line, for an erasure", "\x1b[2;10Hj", goal{x: 0, y: 2, letter: false}, "\r\n"},
		{"behind the end of the line", "\x1b[2;10Hj", goal{x: 2, y: 2, letter: true}, "ab"},
		{"the end of the line", "\x1b[2;9H", goal{x: 0, y: 2, letter: true}, "ij"},
		{"the same cell again", "\x1b[4;10Hj", goal{x: 9, y: 3, letter: true}, "\bi"},
	} {
		s := written(10, 4, filled, c.told)
		got := route(s, c.to)
		if len(got) != len(c.want) {
			t.Errorf("%s: %q, want as many bytes as %q", c.what, got, c.want)
		}
		wantLed(t, s, got, c.to)
	}
}

// wantLed wants bytes to lead to a goal, and to change no cell.
func wantLed(t *testing.T, s *screen.Screen, bytes string, to goal) {
	t.Helper()
	led := s.Clone()
	led.Feed(bytes)
	now := led.State()
	if !sameCells(cells(led), cells(s)) || now.Pen != to.pen {
		t.Errorf("%q from %+v to %+v changed cells, or led to %+v", bytes, s.State(), to, now)
	}
	if !to.letter && (now.X != to.x || now.Y != to.y || now.Pending) {
		t.Errorf("%q from %+v to %+v led to %+v", bytes, s.State(), to, now)
	}
	if to.letter {
		wantPut(t, led, to)
	}
}

// wantPut wants a letter to come to the goal, and to change nothing but what may break beside it.
func wantPut(t *testing.T, led *screen.Screen, to goal) {
	t.Helper()
	before, state := cells(led), led.State()
	led.Feed("!")
	if got, want := led.Cell(to.x, to.y), (api.Cell{Rune: '!', Pen: to.pen}); got != want {
		t.Errorf("a letter from %+v: at %+v there is %+v", state, to, got)
	}
	everywhere(state.Width, state.Height, func(x, y int) {
		near := y == to.y && to.x-1 <= x && x <= to.x+1
		if !near && led.Cell(x, y) != before[y][x] {
			t.Errorf("a letter from %+v to %+v changed %d, %d", state, to, x, y)
		}
	})
}

func everywhere(width, height int, do func(x, y int)) {
	for y := range height {
		for x := range width {
			do(x, y)
		}
	}
}

func TestRouteFromEverywhereToEverywhere(t *testing.T) {
	const mixed = "\x1b[1mab中\x1b[mc国d中e\x1b[34;1mf国\x1b[mgh中"
	pens := []api.Pen{{}, {Bold: true}, {Back: 4, Reverse: true}}
	for _, size := range [][2]int{{1, 1}, {1, 3}, {3, 1}, {2, 2}, {5, 3}, {8, 3}} {
		everywhere(size[0], size[1], func(x, y int) {
			for _, last := range []string{"", "\x1b[1m", "z", "\x1b[1mz"} {
				s := written(size[0], size[1], mixed, place(x, y), last)
				everywhere(size[0], size[1], func(x, y int) {
					for _, pen := range pens {
						wantRoute(t, s, goal{x, y, pen, true})
						wantRoute(t, s, goal{x, y, pen, false})
					}
				})
			}
		})
	}
}

func wantRoute(t *testing.T, s *screen.Screen, to goal) {
	t.Helper()
	bytes := route(s, to)
	wantLed(t, s, bytes, to)
	if len(bytes) > len(place(to.x, to.y)+penChange(s.State().Pen, to.pen)) {
		t.Errorf("%q is more than the place and the pen alone", bytes)
	}
}

func TestThePenChangesWhereItSavesMost(t *testing.T) {
	bold := api.Pen{Bold: true}
	for _, c := range []struct {
		told, want string
	}{
		{"abcd\x1b[m\r", "abcd\x1b[1m"},
		{"\x1b[1mabcd\x1b[m\r", "\x1b[1mabcd"},
		{"ab\x1b[1mcd\x1b[m\r", "ab\x1b[1mcd"},
		{"a\x1b[1mb\x1b[mc\x1b[1md\x1b[m\r", "\x1b[4C\x1b[1m"},
	} {
		s := written(5, 1, c.told)
		if got := route(s, goal{4, 0, bold, true}); len(got) != len(c.want) {
			t.Errorf("over %q: %q, want as many bytes as %q", c.told, got, c.want)
		}
	}
}
