package casement_test

import (
	"strings"
	"testing"

	"casement/api"
	"casement/casement"
)

// made makes a screen and feeds it each of the pieces.
func made(t *testing.T, width, height int, pieces ...string) *casement.Screen {
	t.Helper()
	s, e := casement.NewScreen(width, height)
	if s == nil || e != api.OK {
		t.Fatalf("NewScreen(%d, %d): %d", width, height, e)
	}
	for _, piece := range pieces {
		s.Feed(piece)
	}
	return s
}

// lines shows a screen's letters: a tail as a dot, lines apart by a bar.
func lines(s *casement.Screen) string {
	state := s.State()
	shown := make([]string, state.Height)
	for y := range shown {
		for x := range state.Width {
			if c, _ := s.Cell(x, y); c.Part == api.Tail {
				shown[y] += "."
			} else {
				shown[y] += string(c.Rune)
			}
		}
	}
	return strings.Join(shown, "|")
}

// cells tells all cells of a screen, line behind line.
func cells(t *testing.T, s *casement.Screen) []api.Cell {
	t.Helper()
	var all []api.Cell
	state := s.State()
	for y := range state.Height {
		for x := range state.Width {
			c, e := s.Cell(x, y)
			if e != api.OK {
				t.Fatalf("Cell(%d, %d): %d", x, y, e)
			}
			all = append(all, c)
		}
	}
	return all
}

// oneByOne cuts a text into its bytes.
func oneByOne(text string) []string {
	pieces := make([]string, len(text))
	for i := range pieces {
		pieces[i] = text[i : i+1]
	}
	return pieces
}

// dice tells numbers that look thrown but are the same in each run.
type dice uint32

func (d *dice) below(n int) int {
	*d = *d*1664525 + 1013904223
	return int(*d>>8) % n
}
