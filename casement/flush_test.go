package casement_test

import (
	"math"
	"regexp"
	"slices"
	"testing"
	"unicode/utf8"

	"casement/api"
	"casement/casement"
)

// shown is a desk, and a screen that is told all that Flush tells.
type shown struct {
	t    *testing.T
	desk *casement.Desk
	told *casement.Screen
}

func showing(t *testing.T, width, height int) shown {
	t.Helper()
	return shown{t, opened(t, width, height), made(t, width, height)}
}

func (s shown) resize(width, height int) {
	s.t.Helper()
	fine(s.t, s.desk.Resize(width, height))
	fine(s.t, s.told.Resize(width, height))
}

// others tells how many cells of the picture are others than the screen shows, if that moves up and plain blanks come.
func (s shown) others(up int) int {
	picture, screen := rows(s.desk), rows(s.told)
	sum := 0
	for y, row := range picture {
		old := slices.Repeat([]api.Cell{{Rune: ' '}}, len(row))
		if from := y + up; 0 <= from && from < len(screen) {
			old = screen[from]
		}
		for x := range row {
			if row[x] != old[x] {
				sum++
			}
		}
	}
	return sum
}

// allowed tells how many bytes there may be.
func (s shown) allowed() int {
	k := s.others(0)
	if k == 0 {
		return 0
	}
	most := 64*k + 16
	height := s.told.State().Height
	for up := -height; up <= height; up++ {
		if up != 0 {
			most = min(most, 64*s.others(up)+24)
		}
	}
	return most
}

// flush wants all that P11 promises, and tells the bytes.
func (s shown) flush() string {
	s.t.Helper()
	most := s.allowed()
	bytes := s.desk.Flush()
	if len(bytes) > most {
		s.t.Errorf("%d bytes, %q, where %d are allowed", len(bytes), bytes, most)
	}
	wantTellable(s.t, bytes)
	s.told.Feed(bytes)
	if !slices.Equal(cells(s.told), cells(s.desk)) {
		s.t.Errorf("%q shows %q, want %q", bytes, lines(s.told), lines(s.desk))
	}
	if now := s.told.State(); !now.Ground || now.Top != 0 || now.Bottom != now.Height-1 {
		s.t.Errorf("%q leaves %+v", bytes, now)
	}
	if more := s.desk.Flush(); more != "" {
		s.t.Errorf("nothing is new, but %q", more)
	}
	return bytes
}

var knownSequence = regexp.MustCompile(`\x1b\[[0-9]*(;[0-9]*){0,7}[ABCDHKJXSTrm]`)

// wantTellable wants nothing but letters, 13, 10, 8, and sequences that are known and not bad.
func wantTellable(t *testing.T, bytes string) {
	t.Helper()
	if !utf8.ValidString(bytes) {
		t.Errorf("%q has bytes that are no letter", bytes)
	}
	for _, r := range knownSequence.ReplaceAllString(bytes, "") {
		if casement.Width(r) == 0 && r != '\r' && r != '\n' && r != '\b' {
			t.Errorf("%q has %d in it", bytes, r)
		}
	}
}

func TestP11NothingIsNew(t *testing.T) {
	s := showing(t, 5, 3)
	if got := s.flush(); got != "" {
		t.Errorf("a new desk: %q", got)
	}
	fine(t, s.desk.Write(0, 0, 0, "     ", api.Pen{}))
	n := laid(t, s.desk, 0, 1, 1, 2, 1, "xy")
	fine(t, s.desk.Show(n, false))
	fine(t, s.desk.Scroll(0, 2))
	s.resize(4, 2)
	if got := s.flush(); got != "" {
		t.Errorf("no cell is new: %q", got)
	}
	fine(t, s.desk.Show(n, true))
	s.flush()
	fine(t, s.desk.Move(n, 0, 0))
	fine(t, s.desk.Move(n, 1, 1))
	if got := s.flush(); got != "" {
		t.Errorf("there and back: %q", got)
	}
}

var manyPens = []api.Pen{
	{}, red, {}, blue, red, {Back: 3}, {Under: true}, {Front: 8, Back: 8, Bold: true, Under: true, Reverse: true}, {Bold: true}, {Back: 8, Reverse: true}, blue, {},
}

func TestP11Letters(t *testing.T) {
	for _, size := range [][2]int{{1, 1}, {1, 4}, {4, 1}, {2, 2}, {7, 3}, {12, 5}, {api.MaxWidth, api.MaxHeight}} {
		s := showing(t, size[0], size[1])
		for _, pen := range manyPens {
			for _, text := range []string{"abcdefg", "中国中国", "a中国b", " 中国中", "\u00e9\U0001f600\xffx", "        "} {
				for y := range 2 {
					fine(t, s.desk.Write(0, y, y, text, pen))
				}
				fine(t, s.desk.Write(0, size[0]-2, size[1]-1, text, pen))
				s.flush()
			}
		}
	}
}

// Every single cell, since the screen's corner and the ends of its lines are where it would wrap or scroll.
func TestP11EachCellAlone(t *testing.T) {
	for _, size := range [][2]int{{1, 1}, {1, 3}, {3, 1}, {4, 3}} {
		for _, text := range []string{"x", "中"} {
			s := showing(t, size[0], size[1])
			for from := range size[0] * size[1] {
				for to := range size[0] * size[1] {
					fine(t, s.desk.Fill(0, 0, 0, 9, 9, blue))
					fine(t, s.desk.Write(0, from%size[0], from/size[0], text, red))
					s.flush()
					fine(t, s.desk.Write(0, to%size[0], to/size[0], text, api.Pen{}))
					s.flush()
				}
			}
		}
	}
}

func TestP11Windows(t *testing.T) {
	s := showing(t, 12, 5)
	for y := range 5 {
		fine(t, s.desk.Write(0, 0, y, "中国ab中国cd", api.Pen{Back: y}))
	}
	s.flush()
	n := laid(t, s.desk, 0, 2, 1, 5, 3, "国国z")
	inner := laid(t, s.desk, n, 1, 1, 2, 1, "中")
	s.flush()
	for _, x := range []int{1, 0, -1, -2, 3, 8, 9, 10, 11, 20} {
		fine(t, s.desk.Move(n, x, x%3))
		s.flush()
	}
	fine(t, s.desk.Move(n, 3, 0))
	fine(t, s.desk.Give(inner, 0))
	s.flush()
	fine(t, s.desk.Raise(inner, false))
	s.flush()
	fine(t, s.desk.Show(n, false))
	s.flush()
	fine(t, s.desk.Delete(inner))
	s.flush()
}

func TestP11Resize(t *testing.T) {
	s := showing(t, 12, 5)
	for y := range 5 {
		fine(t, s.desk.Write(0, y, y, "中a国", blue))
	}
	laid(t, s.desk, 0, 3, 1, 6, 3, "国国国")
	s.flush()
	for _, size := range [][2]int{{8, 4}, {1, 1}, {5, 2}, {40, 20}, {12, 5}, {12, 5}, {4, 20}, {40, 3}} {
		s.resize(size[0], size[1])
		s.flush()
		fine(t, s.desk.Write(0, size[0]-1, size[1]-1, "x", red))
		s.flush()
		s.resize(size[0], size[1])
		fine(t, s.desk.Write(0, 0, 0, "y国", red))
	}
	// Between two of them nothing is told.
	s.resize(2, 2)
	s.resize(9, 9)
	s.flush()
}

// scrawled fills the root with letters and pens that are the same nowhere near.
func scrawled(s shown, width, height int) {
	for y := range height {
		for x := range width {
			pen := manyPens[(x/3+y*5)%len(manyPens)]
			fine(s.t, s.desk.Write(0, x, y, string(rune('a'+(x*7+y*11)%26)), pen))
		}
		fine(s.t, s.desk.Write(0, y%width, y, "中", red))
	}
}

func TestP11ScrollsByFewBytes(t *testing.T) {
	for _, size := range [][2]int{{12, 5}, {api.MaxWidth, api.MaxHeight}, {9, 1}} {
		for _, pen := range []api.Pen{{}, blue, {Back: 2}} {
			for _, by := range []int{1, -1, 2, -3, size[1] - 1, 1 - size[1], size[1], -size[1], math.MaxInt, math.MinInt} {
				s := showing(t, size[0], size[1])
				scrawled(s, size[0], size[1])
				// The pen that is written with last is the one that the screen has when it scrolls.
				fine(t, s.desk.Write(0, size[0]-1, size[1]-1, "z", pen))
				s.flush()
				fine(t, s.desk.Scroll(0, by))
				if got := s.flush(); len(got) > 24 {
					t.Errorf("%d lines on %v: %d bytes, %q", by, size, len(got), got)
				}
			}
		}
	}
}

func TestP11ScrollsAndWrites(t *testing.T) {
	for by := -6; by <= 6; by++ {
		s := showing(t, 30, 6)
		scrawled(s, 30, 6)
		s.flush()
		fine(t, s.desk.Scroll(0, by))
		fine(t, s.desk.Write(0, 28, 0, "中", blue))
		fine(t, s.desk.Write(0, 0, 5, "!", red))
		fine(t, s.desk.Write(0, 29, 5, "!", blue))
		if got := s.flush(); len(got) > 64*4+24 {
			t.Errorf("%d lines and 4 cells: %d bytes, %q", by, len(got), got)
		}
	}
}

func TestP11ScrollsAfterResize(t *testing.T) {
	s := showing(t, 20, 10)
	scrawled(s, 20, 10)
	s.flush()
	s.resize(15, 6)
	fine(t, s.desk.Scroll(0, 2))
	if got := s.flush(); len(got) > 24 {
		t.Errorf("%d bytes, %q", len(got), got)
	}
}

func TestP11AllAtOnceIsNoMoreThanItsLetters(t *testing.T) {
	s := showing(t, api.MaxWidth, api.MaxHeight)
	for y := range api.MaxHeight {
		fine(t, s.desk.Write(0, 0, y, "abcdefghijabcdefghijabcdefghijabcdefghij", red))
	}
	if got := s.flush(); len(got) > api.MaxWidth*api.MaxHeight+len("\x1b[31m") {
		t.Errorf("%d bytes", len(got))
	}
	fine(t, s.desk.Fill(0, 0, 0, api.MaxWidth, api.MaxHeight, api.Pen{}))
	if got := s.flush(); len(got) > 24 {
		t.Errorf("nothing but plain blanks: %q", got)
	}
}

func TestP11WhateverIsCalled(t *testing.T) {
	d := dice(31)
	for range 400 {
		width, height := 1+d.below(9), 1+d.below(6)
		s, m := showing(t, width, height), newModel(width, height)
		for range 50 {
			a := throw(&d, m.made)
			if e, follow := call(s.desk, m, a); e == api.OK {
				follow(m.at(a.window))
				if root := m.at(0); a.kind == resizing {
					fine(t, s.told.Resize(root.width, root.height))
				}
			}
			if d.below(3) > 0 {
				s.flush()
			}
		}
		if t.Failed() {
			t.FailNow()
		}
	}
}

func TestP2FlushOfOneDeskAlone(t *testing.T) {
	one, other := showing(t, 6, 3), showing(t, 6, 3)
	fine(t, one.desk.Write(0, 0, 0, "abc", red))
	fine(t, other.desk.Write(0, 0, 0, "abc", red))
	first := one.flush()
	if got := other.flush(); got != first || got == "" {
		t.Errorf("the one told %q, the other %q", first, got)
	}
	fine(t, one.desk.Write(0, 3, 2, "xyz", blue))
	one.flush()
	if got := other.flush(); got != "" {
		t.Errorf("nothing is new on the other: %q", got)
	}
}
