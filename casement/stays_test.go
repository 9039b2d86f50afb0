package casement_test

import (
	"slices"
	"strconv"
	"testing"

	"casement/api"
	"casement/casement"
)

// sound tells what is wrong with a screen, or nothing.
func sound(s *casement.Screen) string {
	state := s.State()
	if state.X < 0 || state.X >= state.Width || state.Y < 0 || state.Y >= state.Height {
		return "the cursor is outside"
	}
	if state.Top < 0 || state.Top > state.Bottom || state.Bottom >= state.Height {
		return "the margins"
	}
	if state.Pending && state.X != state.Width-1 {
		return "pending within a line"
	}
	for y := range state.Height {
		for x := range state.Width {
			if !soundAt(s, x, y) {
				return "the cell " + strconv.Itoa(x) + ", " + strconv.Itoa(y)
			}
		}
	}
	return ""
}

// soundAt tells whether a cell has the other half that it must have, and a letter and a pen that may be.
func soundAt(s celled, x, y int) bool {
	c, _ := s.Cell(x, y)
	other := c
	pen := 0 <= c.Pen.Front && c.Pen.Front < api.Colours && 0 <= c.Pen.Back && c.Pen.Back < api.Colours
	switch c.Part {
	case api.Head:
		other.Part = api.Tail
		got, _ := s.Cell(x+1, y)
		return pen && casement.Width(c.Rune) == 2 && got == other
	case api.Tail:
		other.Part = api.Head
		got, _ := s.Cell(x-1, y)
		return pen && casement.Width(c.Rune) == 2 && got == other
	}
	return pen && c.Part == api.Whole && casement.Width(c.Rune) == 1
}

var tokens = []string{
	"a", "b", "中", "国", "\U0001f600", "é", "\u0301", "\r", "\n", "\b", "\t", "\x7f",
	"\xe4", "\xb8", "\xad", "\xf0\x9f", "\xc0", "\xff", "\xed\xa0",
	"\x1b", "\x1b[", "\x1b[?", ";", "0", "2", "9", "99999", "[",
	"A", "B", "C", "D", "H", "K", "J", "X", "S", "T", "r", "m",
}

// babble makes bytes of which many are sequences.
func babble(d *dice, count int) string {
	text := ""
	for range count {
		if d.below(3) > 0 {
			text += tokens[d.below(len(tokens))]
			continue
		}
		text += "\x1b["
		for range d.below(4) {
			text += strconv.Itoa(d.below(50)) + ";"
		}
		text += strconv.Itoa(d.below(12)) + string("ABCDHKJXSTrm"[d.below(12)])
	}
	return text
}

func TestP6AScreenStaysOne(t *testing.T) {
	d := dice(7)
	for range 400 {
		s := made(t, 1+d.below(8), 1+d.below(6))
		came := ""
		for range 60 {
			if d.below(20) == 0 {
				s.Resize(d.below(9), d.below(7))
				came += "<Resize>"
			}
			piece := babble(&d, 2)
			s.Feed(piece)
			came += piece
			if wrong := sound(s); wrong != "" {
				t.Fatalf("%q: %s: %q, %+v", came, wrong, lines(s), s.State())
			}
		}
	}
}

func TestP6EveryByteFromEveryStart(t *testing.T) {
	starts := []string{"", "\xe4", "\xe4\xb8", "\xf0\x9f\x98", "\x1b", "\x1b[", "\x1b[2;3", "\x1b[;;;;;;;;", "\x1b[?", "中国", "中国\x1b[1;2H"}
	for _, start := range starts {
		for b := range 256 {
			for _, width := range []int{1, 2, 3, 4} {
				s := made(t, width, 2, start, string([]byte{byte(b)}))
				if wrong := sound(s); wrong != "" {
					t.Errorf("%q and %d: %s", start, b, wrong)
				}
			}
		}
	}
}

func TestP6WhateverPieces(t *testing.T) {
	d := dice(11)
	for range 200 {
		width, height := 1+d.below(7), 1+d.below(5)
		text := babble(&d, 80)
		whole, pieces := made(t, width, height, text), made(t, width, height)
		for rest := text; rest != ""; {
			n := min(1+d.below(5), len(rest))
			pieces.Feed(rest[:n])
			pieces.Feed("")
			rest = rest[n:]
		}
		if whole.State() != pieces.State() || !slices.Equal(cells(whole), cells(pieces)) {
			t.Fatalf("%q: %q, in pieces %q", text, lines(whole), lines(pieces))
		}
	}
}

func FuzzP6(f *testing.F) {
	f.Add(uint8(4), uint8(2), "ab\r中\x1b[2Dx")
	f.Add(uint8(1), uint8(1), "中\x1b[1;1r\x1b[9T")
	f.Add(uint8(255), uint8(0), "\x1b[2;3r\x1b[99;99H\xe4\xb8\n")
	f.Fuzz(func(t *testing.T, width, height uint8, text string) {
		s := made(t, 1+int(width)%api.MaxWidth, 1+int(height)%api.MaxHeight)
		for _, b := range oneByOne(text) {
			s.Feed(b)
			if wrong := sound(s); wrong != "" {
				t.Fatalf("%q: %s", text, wrong)
			}
		}
	})
}
