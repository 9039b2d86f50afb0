package casement_test

import (
	"slices"
	"strings"
	"testing"

	"casement/api"
	"casement/casement"
)

// made makes a screen and feeds it each of the pieces.
func made(t *testing.T, width, height int, pieces ...string) *casement.Screen {
	t.Helper()
	s, e := casement.NewScreen(width, height)
	if s == nil || e != api.OK {
		t.Fatalf("NewScreen(%d, %d): %d", width, height, e)
	}
	for _, piece := range pieces {
		s.Feed(piece)
	}
	return s
}

// celled is what has cells: a screen, or a desk by its picture.
type celled interface {
	Cell(x, y int) (api.Cell, api.Errno)
}

// rows tells all cells, line by line, up to the first places that there are not.
func rows(c celled) [][]api.Cell {
	var all [][]api.Cell
	for y := 0; ; y++ {
		var row []api.Cell
		for x := 0; ; x++ {
			cell, e := c.Cell(x, y)
			if e != api.OK {
				break
			}
			row = append(row, cell)
		}
		if row == nil {
			return all
		}
		all = append(all, row)
	}
}

// lines shows letters: a tail as a dot, lines apart by a bar.
func lines(c celled) string {
	all := rows(c)
	shown := make([]string, len(all))
	for y, row := range all {
		for _, cell := range row {
			if cell.Part == api.Tail {
				shown[y] += "."
			} else {
				shown[y] += string(cell.Rune)
			}
		}
	}
	return strings.Join(shown, "|")
}

// cells tells all cells, line behind line.
func cells(c celled) []api.Cell { return slices.Concat(rows(c)...) }

// oneByOne cuts a text into its bytes.
func oneByOne(text string) []string {
	pieces := make([]string, len(text))
	for i := range pieces {
		pieces[i] = text[i : i+1]
	}
	return pieces
}

// dice tells numbers that look thrown but are the same in each run.
type dice uint32

func (d *dice) below(n int) int {
	*d = *d*1664525 + 1013904223
	return int(*d>>8) % n
}
