package casement_test

import (
	"math"
	"strings"
	"testing"

	"casement/api"
)

func TestP9Write(t *testing.T) {
	for _, c := range []struct {
		x, y       int
		text, want string
	}{
		{0, 0, "xyz", "xyz国.e|      "}, {4, 0, "xyz", "a中. xy|      "}, {-2, 0, "xyz", "z中.国.e|      "}, {0, 1, "xyz", "a中.国.e|xyz   "}, {6, 0, "x", "a中.国.e|      "}, {-1, 0, "x", "a中.国.e|      "}, {5, 1, "xyzzz", "a中.国.e|     x"},
		{0, 2, "xyz", "a中.国.e|      "}, {0, -1, "xyz", "a中.国.e|      "}, {api.MaxPlace, api.MaxPlace, "x", "a中.国.e|      "}, {-api.MaxPlace, -api.MaxPlace, "x", "a中.国.e|      "}, {-api.MaxPlace, 0, strings.Repeat("x", 200), "a中.国.e|      "}, {api.MaxPlace, 0, "x", "a中.国.e|      "},
		{-194, 0, strings.Repeat("x", 200), "xxxxxx|      "}, {0, 0, "", "a中.国.e|      "}, {1, 0, "", "a中.国.e|      "}, {2, 0, "", "a中.国.e|      "},
		{2, 0, "x", "a x国.e|      "}, {1, 0, "x", "ax 国.e|      "}, {2, 0, "文", "a 文. e|      "}, {0, 0, "文", "文. 国.e|      "}, {4, 0, "文", "a中. 文.|      "},
		{5, 0, "文", "a中.国. |      "}, {-1, 0, "文", " 中.国.e|      "}, {-2, 0, "文x", "x中.国.e|      "}, {-1, 0, "文x", " x 国.e|      "}, {-1, 0, "文文文文", " 文.文. |      "}, {6, 0, "文", "a中.国.e|      "}, {4, 1, "x文", "a中.国.e|    x "},
	} {
		d := opened(t, 6, 2)
		fine(t, d.Write(0, 0, 0, "a中国e", red))
		fine(t, d.Write(0, c.x, c.y, c.text, blue))
		if got := lines(d); got != c.want {
			t.Errorf("%q at %d, %d: %q, want %q", c.text, c.x, c.y, got, c.want)
		}
	}
}

func TestP9WhatIsNoLetter(t *testing.T) {
	for text, want := range map[string]string{
		"a\xffb": "a\ufffdb   ", "\xe4\xb8": "\ufffd\ufffd    ", "\xe4\xb8x": "\ufffd\ufffdx   ", "\xf0\x9f\x98": "\ufffd\ufffd\ufffd   ", "\xc0\x80": "\ufffd\ufffd    ", "\xed\xa0\x80": "\ufffd\ufffd\ufffd   ", "\xf4\x90\x80\x80": "\ufffd\ufffd\ufffd\ufffd  ", "\xb8中": "\ufffd中.   ",
		"a\u0301": "a\ufffd    ", "\u200b\u0085": "\ufffd\ufffd    ", "\x00\r\n\b\x1b[": "\ufffd\ufffd\ufffd\ufffd\ufffd[", "\x7f~": "\ufffd~    ", "\ufffdx": "\ufffdx    ", "\U0001f600é": "\U0001f600.é   ", "\U0010ffff": "\U0010ffff     ",
	} {
		d := opened(t, 6, 1)
		fine(t, d.Write(0, 0, 0, text, red))
		if got := lines(d); got != want {
			t.Errorf("%q: %q, want %q", text, got, want)
		}
	}
}

func TestP9PensOfWhatIsWritten(t *testing.T) {
	blank := func(pen api.Pen) api.Cell { return api.Cell{Rune: ' ', Pen: pen} }
	head := api.Cell{Rune: '中', Part: api.Head, Pen: red}
	tail := api.Cell{Rune: '中', Part: api.Tail, Pen: red}
	for _, c := range []struct {
		x    int
		text string
		want [4]api.Cell
	}{
		{0, "", [4]api.Cell{head, tail, head, tail}},
		{1, "x", [4]api.Cell{blank(red), {Rune: 'x', Pen: blue}, head, tail}},
		{2, "x", [4]api.Cell{head, tail, {Rune: 'x', Pen: blue}, blank(red)}},
		{1, "国", [4]api.Cell{blank(red), {Rune: '国', Part: api.Head, Pen: blue}, {Rune: '国', Part: api.Tail, Pen: blue}, blank(red)}},
		{-1, "国", [4]api.Cell{blank(blue), blank(red), head, tail}},
		{3, "国", [4]api.Cell{head, tail, blank(red), blank(blue)}},
		{-2, "国", [4]api.Cell{head, tail, head, tail}},
		{4, "国", [4]api.Cell{head, tail, head, tail}},
		{0, "\xff\n", [4]api.Cell{{Rune: 0xfffd, Pen: blue}, {Rune: 0xfffd, Pen: blue}, head, tail}},
	} {
		d := opened(t, 4, 1)
		fine(t, d.Write(0, 0, 0, "中中", red))
		fine(t, d.Write(0, c.x, 0, c.text, blue))
		wantCells(t, d, c.want[:]...)
	}
	narrow := opened(t, 1, 1)
	fine(t, narrow.Write(0, 0, 0, "中", blue))
	wantCells(t, narrow, blank(blue))
	fine(t, narrow.Write(0, -1, 0, "中", red))
	wantCells(t, narrow, blank(red))
}

func TestP9EveryPenThatMayBe(t *testing.T) {
	d := opened(t, 1, 1)
	for front := range api.Colours {
		for back := range api.Colours {
			for flags := range 8 {
				pen := api.Pen{Front: front, Back: back, Bold: flags&1 > 0, Under: flags&2 > 0, Reverse: flags&4 > 0}
				fine(t, d.Write(0, 0, 0, "x", pen))
				wantCells(t, d, api.Cell{Rune: 'x', Pen: pen})
				fine(t, d.Fill(0, 0, 0, 1, 1, pen))
				wantCells(t, d, api.Cell{Rune: ' ', Pen: pen})
			}
		}
	}
}

func TestP9Fill(t *testing.T) {
	const all = "ab中.|c国.d|efgh"
	for _, c := range []struct {
		x, y, width, height int
		want                string
	}{
		{0, 0, 4, 3, "    |    |    "}, {1, 1, 2, 1, "ab中.|c  d|efgh"}, {0, 0, 1, 3, " b中.| 国.d| fgh"}, {2, 0, 1, 2, "ab  |c  d|efgh"}, {3, 0, 1, 1, "ab  |c国.d|efgh"}, {1, 0, 1, 2, "a 中.|c  d|efgh"},
		{-1, -1, 2, 2, " b中.|c国.d|efgh"}, {3, 2, 9, 9, "ab中.|c国.d|efg "}, {-api.MaxPlace, -api.MaxPlace, api.MaxPlace, api.MaxPlace, all}, {-999, -999, api.MaxPlace, api.MaxPlace, " b中.|c国.d|efgh"}, {0, 0, api.MaxPlace, api.MaxPlace, "    |    |    "},
		{2, 0, 0, 3, all}, {0, 0, 4, 0, all}, {3, 0, 0, 0, all}, {-5, 0, 3, 1, all}, {0, -5, 4, 3, all}, {4, 0, 5, 3, all}, {0, 3, 4, 5, all}, {api.MaxPlace, api.MaxPlace, api.MaxPlace, api.MaxPlace, all},
	} {
		d := opened(t, 4, 3)
		for y, text := range []string{"ab中", "c国d", "efgh"} {
			fine(t, d.Write(0, 0, y, text, red))
		}
		fine(t, d.Fill(0, c.x, c.y, c.width, c.height, blue))
		if got := lines(d); got != c.want {
			t.Errorf("Fill(%d, %d, %d, %d): %q, want %q", c.x, c.y, c.width, c.height, got, c.want)
		}
	}
	d := opened(t, 4, 1)
	fine(t, d.Write(0, 0, 0, "中中", red))
	fine(t, d.Fill(0, 1, 0, 2, 1, blue))
	wantCells(t, d, api.Cell{Rune: ' ', Pen: red}, api.Cell{Rune: ' ', Pen: blue}, api.Cell{Rune: ' ', Pen: blue}, api.Cell{Rune: ' ', Pen: red})
}

func TestP9Scroll(t *testing.T) {
	for lineCount, want := range map[int]string{
		0: "中.|bb|cc|dd", 1: "bb|cc|dd|  ", 3: "dd|  |  |  ", 4: "  |  |  |  ", 5: "  |  |  |  ", -1: "  |中.|bb|cc", -3: "  |  |  |中.", -4: "  |  |  |  ",
		math.MaxInt: "  |  |  |  ", math.MinInt: "  |  |  |  ", math.MinInt + 1: "  |  |  |  ", 1 << 32: "  |  |  |  ",
	} {
		d := opened(t, 2, 4)
		for y, text := range []string{"中", "bb", "cc", "dd"} {
			fine(t, d.Write(0, 0, y, text, blue))
		}
		fine(t, d.Scroll(0, lineCount))
		if got := lines(d); got != want {
			t.Errorf("Scroll(%d): %q, want %q", lineCount, got, want)
		}
	}
	d := opened(t, 1, 2)
	fine(t, d.Fill(0, 0, 0, 1, 2, blue))
	fine(t, d.Scroll(0, 1))
	wantCells(t, d, api.Cell{Rune: ' ', Pen: blue}, api.Cell{Rune: ' '})
	fine(t, d.Scroll(0, -1))
	wantCells(t, d, api.Cell{Rune: ' '}, api.Cell{Rune: ' ', Pen: blue})
}

func TestP9ScrollMovesNoWindows(t *testing.T) {
	d := three(t)
	fine(t, d.Raise(1, true))
	fine(t, d.Scroll(0, 1))
	wantPicture(t, d, ".aaa..|.accb.|  bbb ")
	fine(t, d.Scroll(1, -1))
	wantPicture(t, d, ".   ..|.accb.|  bbb ")
}

func TestP9WritesBeneathOthers(t *testing.T) {
	d := three(t)
	fine(t, d.Write(1, 0, 1, "中x", red))
	wantPicture(t, d, ".aaa..|. bbb.|..bbb.")
	fine(t, d.Show(2, false))
	wantPicture(t, d, ".aaa..|. cc..|......")
	fine(t, d.Show(3, false))
	wantPicture(t, d, ".aaa..|.中.x..|......")
}
