package casement_test

import (
	"math"
	"slices"
	"testing"

	"casement/api"
	"casement/casement"
)

func TestP3Width(t *testing.T) {
	for _, c := range []struct {
		letter rune
		want   int
	}{
		{'a', 1}, {0x4e2d, 2}, {0x301, 0}, {0x1f600, 2}, {' ', 1}, {31, 0}, {127, 0}, {160, 1}, {0xfffd, 1}, {0xd800, 0}, {-1, 0}, {math.MaxInt32, 0}, {math.MinInt32, 0},
	} {
		if got := casement.Width(c.letter); got != c.want {
			t.Errorf("Width(%d): %d, want %d", c.letter, got, c.want)
		}
	}
}

func TestP4NewScreen(t *testing.T) {
	for _, size := range [][2]int{{1, 1}, {4, 2}, {api.MaxWidth, 1}, {1, api.MaxHeight}, {api.MaxWidth, api.MaxHeight}} {
		s := made(t, size[0], size[1])
		if got, want := s.State(), (api.State{Width: size[0], Height: size[1], Bottom: size[1] - 1, Ground: true}); got != want {
			t.Errorf("%v: %+v, want %+v", size, got, want)
		}
		checkPlain(t, s, size)
	}
}

// checkPlain wants a size, and plain blanks alone.
func checkPlain(t *testing.T, c celled, size [2]int) {
	t.Helper()
	all := rows(c)
	if len(all) != size[1] || len(all[0]) != size[0] {
		t.Errorf("%v: %d lines", size, len(all))
	}
	for i, cell := range cells(c) {
		if cell != (api.Cell{Rune: ' '}) {
			t.Errorf("%v: cell %d: %+v", size, i, cell)
		}
	}
}

// wrongSizes are sizes that no screen may have.
var wrongSizes = [][2]int{
	{0, 1}, {1, 0}, {-1, 1}, {1, -1}, {api.MaxWidth + 1, 1}, {1, api.MaxHeight + 1},
	{math.MaxInt, 1}, {1, math.MaxInt}, {math.MinInt, math.MinInt}, {1 << 32, 1 << 32}, {1<<32 + 1, 1},
}

func TestP4WrongSizes(t *testing.T) {
	const bytes = "\x1b[2;3r\x1b[31mab中d\xe4"
	for _, size := range wrongSizes {
		if s, e := casement.NewScreen(size[0], size[1]); s != nil || e != api.ErrSize {
			t.Errorf("NewScreen(%v): %v, %d", size, s, e)
		}
		s, same := made(t, 4, 3, bytes), made(t, 4, 3, bytes)
		if e := s.Resize(size[0], size[1]); e != api.ErrSize {
			t.Errorf("Resize(%v): %d", size, e)
		}
		if s.State() != same.State() || !slices.Equal(cells(s), cells(same)) {
			t.Errorf("Resize(%v) changed the screen: %+v", size, s.State())
		}
	}
}

func TestP4Resize(t *testing.T) {
	const bytes = "\x1b[2;3r\x1b[31mabc中\r\nd中e国"
	for _, c := range []struct {
		width, height int
		want          string
		x, y          int
	}{
		{6, 3, "abc中. |d中.e国.|      ", 5, 1},
		{7, 4, "abc中.  |d中.e国. |       |       ", 5, 1},
		{5, 2, "abc中.|d中.e ", 4, 1},
		{4, 2, "abc |d中.e", 3, 1},
		{2, 1, "ab", 1, 0},
		{1, 3, "a|d| ", 0, 1},
	} {
		s := made(t, 6, 3, bytes)
		if state := s.State(); !state.Pending || state.Top != 1 {
			t.Fatalf("ahead of it: %+v", state)
		}
		if e := s.Resize(c.width, c.height); e != api.OK {
			t.Errorf("Resize(%d, %d): %d", c.width, c.height, e)
		}
		if got := lines(s); got != c.want {
			t.Errorf("Resize(%d, %d): %q, want %q", c.width, c.height, got, c.want)
		}
		want := api.State{Width: c.width, Height: c.height, X: c.x, Y: c.y, Pen: api.Pen{Front: 2}, Bottom: c.height - 1, Ground: true}
		if got := s.State(); got != want {
			t.Errorf("Resize(%d, %d): %+v, want %+v", c.width, c.height, got, want)
		}
	}
}

func TestP4ResizeGivesPlainBlanks(t *testing.T) {
	s := made(t, 2, 1, "\x1b[1;31;44m中")
	s.Resize(1, 1)
	s.Resize(2, 2)
	plain := api.Cell{Rune: ' '}
	broken := api.Cell{Rune: ' ', Pen: api.Pen{Front: 2, Back: 5, Bold: true}}
	if got := cells(s); !slices.Equal(got, []api.Cell{broken, plain, plain, plain}) {
		t.Errorf("%+v", got)
	}
}

func TestP4WhatIsBegunOutlivesResize(t *testing.T) {
	for _, c := range []struct{ before, after, want string }{
		{"\xe4\xb8", "\xad", "中.  "}, {"\x1b", "[2Cx", "  x "}, {"\x1b[", "2Cx", "  x "}, {"\x1b[1;2", ";4;7;1;1;1;1;1Cx", "x   "},
	} {
		s := made(t, 3, 2, c.before)
		s.Resize(4, 1)
		if s.State().Ground {
			t.Errorf("%q: ground", c.before)
		}
		s.Feed(c.after)
		if got := lines(s); got != c.want || !s.State().Ground {
			t.Errorf("%q, %q: %q, want %q", c.before, c.after, got, c.want)
		}
	}
}

func TestP4Cell(t *testing.T) {
	s := made(t, 3, 2, "a\x1b[4m中")
	for _, c := range []struct {
		x, y int
		want api.Cell
	}{
		{0, 0, api.Cell{Rune: 'a'}}, {1, 0, api.Cell{Rune: '中', Part: api.Head, Pen: api.Pen{Under: true}}}, {2, 0, api.Cell{Rune: '中', Part: api.Tail, Pen: api.Pen{Under: true}}}, {2, 1, api.Cell{Rune: ' '}},
	} {
		if got, e := s.Cell(c.x, c.y); got != c.want || e != api.OK {
			t.Errorf("Cell(%d, %d): %+v, %d, want %+v", c.x, c.y, got, e, c.want)
		}
	}
	for _, place := range [][2]int{{3, 0}, {0, 2}, {-1, 0}, {0, -1}, {math.MaxInt, 0}, {0, math.MinInt}, {-3, 1}, {4, 1}} {
		if got, e := s.Cell(place[0], place[1]); got != (api.Cell{}) || e != api.ErrPlace {
			t.Errorf("Cell(%v): %+v, %d", place, got, e)
		}
	}
}

func TestP4Ground(t *testing.T) {
	for bytes, want := range map[string]bool{
		"": true, "a": true, "\xc3": false, "\xc3\xa9": true, "\xe4\xb8": false, "\xe4\xb8a": true, "\xf0\x9f\x98": false, "\xc0": true, "\xe4\x80\x80\x80": true,
		"\x1b": false, "\x1b\x1b": false, "\x1bx": true, "\x1b[": false, "\x1b[3": false, "\x1b[3;": false, "\x1b[?h": true, "\x1b[@": true, "\x1b[~": true, "\x1b[?": false, "\x1b[\x7f": false, "\x1b[3\x1b": false, "\x1b[m": true, "\xe4\x1b": false,
	} {
		if got := made(t, 4, 2, bytes).State().Ground; got != want {
			t.Errorf("%q: %v", bytes, got)
		}
	}
}

func TestP1NoScreen(t *testing.T) {
	for _, none := range []*casement.Screen{nil, {}} {
		none.Feed("a\x1b[2J\xe4")
		if got := none.State(); got != (api.State{}) {
			t.Errorf("State: %+v", got)
		}
		if got, e := none.Cell(-1, 0); got != (api.Cell{}) || e != api.ErrWindow {
			t.Errorf("Cell: %+v, %d", got, e)
		}
		if e := none.Resize(2, 2); e != api.ErrWindow {
			t.Errorf("Resize: %d", e)
		}
		if e := none.Resize(0, math.MinInt); e != api.ErrWindow {
			t.Errorf("Resize, of two errors: %d", e)
		}
	}
}

func TestP2ScreensApart(t *testing.T) {
	bytes := "\x1b[1;33mab\xe4\xb8\xad\x1b[2;3r\x1b[5Bx\ny\x1b[7;2Hz\x1b[1T"
	alone := made(t, 5, 4, bytes)
	one, other := made(t, 5, 4), made(t, 5, 4)
	for _, b := range oneByOne(bytes) {
		one.Feed(b)
		other.Feed("\x1b[41m" + b + "\x1b")
	}
	if one.State() != alone.State() || !slices.Equal(cells(one), cells(alone)) {
		t.Errorf("%q, want %q", lines(one), lines(alone))
	}
}
