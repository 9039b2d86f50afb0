package casement_test

import (
	"math"
	"testing"

	"casement/api"
)

func TestP10Resize(t *testing.T) {
	d := three(t)
	for _, c := range []struct {
		width, height int
		want          string
	}{
		{6, 3, ".aaa..|.abbb.|..bbb."}, {4, 2, ".aaa|.abb"}, {7, 3, ".aaa   |.abbb  |  bbb  "}, {1, 1, "."}, {6, 3, ".aaa  | abbb |  bbb "},
	} {
		fine(t, d.Resize(c.width, c.height))
		wantPicture(t, d, c.want)
	}
}

func TestP10ResizeBreaks(t *testing.T) {
	d := opened(t, 2, 1)
	fine(t, d.Write(0, 0, 0, "中", blue))
	fine(t, d.Resize(1, 1))
	wantCells(t, d, api.Cell{Rune: ' ', Pen: blue})
	fine(t, d.Resize(2, 2))
	wantCells(t, d, api.Cell{Rune: ' ', Pen: blue}, api.Cell{Rune: ' '}, api.Cell{Rune: ' '}, api.Cell{Rune: ' '})
}

func TestP10ResizeBreaksNoOtherWindow(t *testing.T) {
	d := opened(t, 2, 1)
	laid(t, d, 0, 0, 0, 2, 1, "中")
	fine(t, d.Resize(1, 1))
	wantPicture(t, d, " ")
	fine(t, d.Resize(2, 1))
	wantPicture(t, d, "中.")
}

func TestP10WrongSizes(t *testing.T) {
	for _, size := range wrongSizes {
		d := three(t)
		if e := d.Resize(size[0], size[1]); e != api.ErrSize {
			t.Errorf("Resize(%v): %d", size, e)
		}
		wantPicture(t, d, ".aaa..|.abbb.|..bbb.")
	}
}

func TestP10Cell(t *testing.T) {
	d := three(t)
	for _, place := range [][2]int{{6, 0}, {0, 3}, {-1, 0}, {0, -1}, {math.MaxInt, 0}, {0, math.MinInt}, {-6, 1}, {7, 1}, {1 << 32, 1 << 32}} {
		if got, e := d.Cell(place[0], place[1]); got != (api.Cell{}) || e != api.ErrPlace {
			t.Errorf("Cell(%v): %+v, %d", place, got, e)
		}
	}
	if got, e := d.Cell(3, 2); got != (api.Cell{Rune: 'b', Pen: red}) || e != api.OK {
		t.Errorf("Cell: %+v, %d", got, e)
	}
}

// A wide letter is cut in two by a window above it.
func TestP10HalvesBesideAWindow(t *testing.T) {
	for x, want := range map[int]string{
		-3: "中.国.文.", -2: "中.国.文.", -1: "y 国.文.", 0: "xy国.文.", 1: " xy 文.", 2: "中.xy文.", 3: "中. xy ", 4: "中.国.xy", 5: "中.国. x", 6: "中.国.文.",
	} {
		d := opened(t, 6, 1)
		fine(t, d.Write(0, 0, 0, "中国文", red))
		laid(t, d, 0, x, 0, 2, 1, "xy")
		wantPicture(t, d, want)
	}
}

// A wide letter is cut in two by the edge of what its window lies in, be that the desk.
func TestP10HalvesAtAnEdge(t *testing.T) {
	for x, want := range map[int]string{-2: "-oo-", -1: "- o-", 0: "-中.-", 1: "-o -", 2: "-oo-"} {
		d := opened(t, 4, 1)
		fine(t, d.Write(0, 0, 0, "----", red))
		outer := laid(t, d, 0, 1, 0, 2, 1, "oo")
		laid(t, d, outer, x, 0, 2, 1, "中")
		wantPicture(t, d, want)
	}
	for x, want := range map[int]string{-2: "---", -1: " --", 0: "中.-", 1: "-中.", 2: "-- ", 3: "---"} {
		d := opened(t, 3, 1)
		fine(t, d.Write(0, 0, 0, "---", red))
		laid(t, d, 0, x, 0, 2, 1, "中")
		wantPicture(t, d, want)
	}
}

// A head and a tail beside one another are no letter, if they are of two windows, though letter and pen are the same.
func TestP10HalvesOfTwoWindows(t *testing.T) {
	blank := api.Cell{Rune: ' ', Pen: red}
	for _, x := range []int{0, 1} {
		d := opened(t, 2, 1)
		laid(t, d, 0, 0, 0, 2, 1, "中")
		narrow := laid(t, d, 0, x, 0, 1, 1, "")
		laid(t, d, narrow, -x, 0, 2, 1, "中")
		wantCells(t, d, blank, blank)
		fine(t, d.Shape(narrow, 2, 1))
		fine(t, d.Move(narrow, 0, 0))
		fine(t, d.Move(3, 0, 0))
		wantPicture(t, d, "中.")
	}
}

func TestP10HalvesOfOverlappingWindows(t *testing.T) {
	d := opened(t, 4, 1)
	left, right := laid(t, d, 0, 0, 0, 2, 1, "中"), laid(t, d, 0, 1, 0, 2, 1, "中")
	plain, broken := api.Cell{Rune: ' '}, api.Cell{Rune: ' ', Pen: red}
	head, tail := api.Cell{Rune: '中', Part: api.Head, Pen: red}, api.Cell{Rune: '中', Part: api.Tail, Pen: red}
	wantCells(t, d, broken, head, tail, plain)
	fine(t, d.Raise(left, true))
	wantCells(t, d, head, tail, broken, plain)
	fine(t, d.Move(left, -1, 0))
	wantCells(t, d, broken, head, tail, plain)
	fine(t, d.Move(right, 0, 0))
	wantCells(t, d, broken, broken, plain, plain)
	fine(t, d.Move(right, 3, 0))
	wantCells(t, d, broken, plain, plain, broken)
}
