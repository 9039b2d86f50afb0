package grid

import (
	"math"
	"testing"

	"casement/api"
)

var red, green = api.Pen{Front: 2}, api.Pen{Back: 3}

// text shows a grid: a head as the letter, a tail as a dot, lines apart by a bar.
func text(g *Grid) string {
	shown := ""
	for y := range g.Height() {
		if y > 0 {
			shown += "|"
		}
		for x := range g.Width() {
			if c := g.Cell(x, y); c.Part == api.Tail {
				shown += "."
			} else {
				shown += string(c.Rune)
			}
		}
	}
	return shown
}

// written makes a grid of one line for each text; the letters have the red pen.
func written(width int, lines ...string) *Grid {
	g := New(width, len(lines))
	for y, line := range lines {
		x := 0
		for _, r := range line {
			g.Put(x, y, r, red)
			x += 1 + int(g.Cell(x, y).Part)
		}
	}
	return g
}

func TestMayBe(t *testing.T) {
	for _, c := range []struct {
		width, height int
		want          bool
	}{
		{1, 1, true}, {api.MaxWidth, api.MaxHeight, true}, {0, 1, false}, {1, 0, false}, {api.MaxWidth + 1, 1, false}, {1, api.MaxHeight + 1, false}, {math.MinInt, math.MaxInt, false},
	} {
		if got := MayBe(c.width, c.height); got != c.want {
			t.Errorf("MayBe(%d, %d): %v", c.width, c.height, got)
		}
	}
}

func TestPutBreaksWhatItCovers(t *testing.T) {
	for _, c := range []struct {
		x      int
		letter rune
		want   string
	}{
		{0, 'x', "x 中.  "}, {1, 'x', " x中.  "}, {2, 'x', "中.x   "}, {3, 'x', "中. x  "}, {4, 'x', "中.中.x "},
		{0, '国', "国.中.  "}, {1, '国', " 国.   "}, {2, '国', "中.国.  "}, {3, '国', "中. 国. "}, {4, '国', "中.中.国."},
	} {
		g := written(6, "中中")
		g.Put(c.x, 0, c.letter, green)
		if got := text(g); got != c.want {
			t.Errorf("%c at %d: %q, want %q", c.letter, c.x, got, c.want)
		}
	}
}

func TestABrokenHalfKeepsItsPen(t *testing.T) {
	g := written(4, "中中")
	g.Put(1, 0, '国', green)
	for x, want := range []api.Cell{Blank(red), {Rune: '国', Part: api.Head, Pen: green}, {Rune: '国', Part: api.Tail, Pen: green}, Blank(red)} {
		if got := g.Cell(x, 0); got != want {
			t.Errorf("cell %d: %+v, want %+v", x, got, want)
		}
	}
}

func TestErase(t *testing.T) {
	for _, c := range []struct {
		from, to int
		want     string
	}{
		{0, 6, "      "}, {1, 2, "  国.ab"}, {2, 3, "中.  ab"}, {3, 5, "中.   b"}, {-9, 1, "  国.ab"}, {4, math.MaxInt, "中.国.  "}, {1, 1, "中.国.ab"}, {5, 2, "中.国.ab"}, {6, 9, "中.国.ab"},
	} {
		g := written(6, "中国ab")
		g.Erase(c.from, c.to, 0, green)
		if got := text(g); got != c.want {
			t.Errorf("Erase(%d, %d): %q, want %q", c.from, c.to, got, c.want)
		}
	}
	g := written(4, "中ab")
	g.Erase(1, 3, 0, green)
	for x, want := range []api.Cell{Blank(red), Blank(green), Blank(green), {Rune: 'b', Pen: red}} {
		if got := g.Cell(x, 0); got != want {
			t.Errorf("cell %d: %+v, want %+v", x, got, want)
		}
	}
}

func TestScroll(t *testing.T) {
	for _, c := range []struct {
		first, last, lines int
		want               string
	}{
		{0, 3, 0, "a|b|c|d"}, {0, 3, 1, "b|c|d| "}, {0, 3, -1, " |a|b|c"}, {0, 3, 3, "d| | | "}, {0, 3, 4, " | | | "}, {0, 3, -3, " | | |a"},
		{1, 2, 1, "a|c| |d"}, {1, 2, -1, "a| |b|d"}, {1, 2, 2, "a| | |d"}, {2, 2, 1, "a|b| |d"},
		{0, 3, math.MaxInt, " | | | "}, {0, 3, math.MinInt, " | | | "}, {1, 2, math.MinInt, "a| | |d"},
	} {
		g := written(1, "a", "b", "c", "d")
		g.Scroll(c.first, c.last, c.lines, green)
		if got := text(g); got != c.want {
			t.Errorf("Scroll(%d, %d, %d): %q, want %q", c.first, c.last, c.lines, got, c.want)
		}
	}
	g := written(1, "a", "b")
	g.Scroll(0, 1, 1, green)
	if g.Cell(0, 0) != (api.Cell{Rune: 'b', Pen: red}) || g.Cell(0, 1) != Blank(green) {
		t.Errorf("pens: %+v, %+v", g.Cell(0, 0), g.Cell(0, 1))
	}
}

func TestResize(t *testing.T) {
	for _, c := range []struct {
		width, height int
		want          string
	}{
		{4, 2, "a中.b|cd国."}, {5, 3, "a中.b |cd国. |     "}, {3, 2, "a中.|cd "}, {2, 1, "a "}, {1, 3, "a|c| "},
	} {
		g := written(4, "a中b", "cd国")
		g.Resize(c.width, c.height)
		if got := text(g); got != c.want || g.Width() != c.width || g.Height() != c.height {
			t.Errorf("Resize(%d, %d): %q, want %q", c.width, c.height, got, c.want)
		}
	}
	g := written(2, "中")
	g.Resize(1, 1)
	g.Resize(2, 1)
	if g.Cell(0, 0) != Blank(red) || g.Cell(1, 0) != Blank(api.Pen{}) {
		t.Errorf("what is cut off keeps its pen, what comes is plain: %+v, %+v", g.Cell(0, 0), g.Cell(1, 0))
	}
}

func TestHas(t *testing.T) {
	g := New(3, 2)
	for _, c := range []struct {
		x, y int
		want bool
	}{
		{0, 0, true}, {2, 1, true}, {3, 0, false}, {0, 2, false}, {-1, 0, false}, {0, -1, false}, {math.MaxInt, math.MinInt, false},
	} {
		if got := g.Has(c.x, c.y); got != c.want {
			t.Errorf("Has(%d, %d): %v", c.x, c.y, got)
		}
	}
}

func TestClone(t *testing.T) {
	g := written(4, "a中b", "cd国")
	clone := g.Clone()
	clone.Put(0, 0, 'x', green)
	clone.Scroll(0, 1, 1, green)
	if got := text(g); got != "a中.b|cd国." {
		t.Errorf("the first one: %q", got)
	}
	g.Resize(1, 1)
	if got := text(clone); got != "cd国.|    " {
		t.Errorf("the clone: %q", got)
	}
}
