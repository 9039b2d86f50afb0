package casement_test

import (
	"slices"
	"strconv"
	"strings"
	"testing"

	"casement/api"
)

// feeding is what a screen shows when it has been fed bytes, and where its cursor is then.
type feeding struct {
	width, height int
	bytes, want   string
	x, y          int
	pending       bool
}

// feedAll feeds each screen at once and byte by byte.
func feedAll(t *testing.T, feedings []feeding) {
	t.Helper()
	for _, f := range feedings {
		s := made(t, f.width, f.height, f.bytes)
		state := s.State()
		if got := lines(s); got != f.want || state.X != f.x || state.Y != f.y || state.Pending != f.pending {
			t.Errorf("%d by %d fed %q: %q, cursor %d, %d, pending %v; want %q, %d, %d, %v", f.width, f.height, f.bytes, got, state.X, state.Y, state.Pending, f.want, f.x, f.y, f.pending)
		}
		pieces := made(t, f.width, f.height, oneByOne(f.bytes)...)
		if pieces.State() != state || !slices.Equal(cells(pieces), cells(s)) {
			t.Errorf("%q byte by byte: %q, %+v", f.bytes, lines(pieces), pieces.State())
		}
	}
}

func TestP5TheExamples(t *testing.T) {
	feedAll(t, []feeding{
		{4, 2, "abcdX", "abcd|X   ", 1, 1, false},
		{4, 2, "ab\r中\x1b[2Dx", "x   |    ", 1, 0, false},
	})
	if got, _ := made(t, 4, 2, "\x1b[1;31;44m!").Cell(0, 0); got != (api.Cell{Rune: '!', Pen: api.Pen{Front: 2, Back: 5, Bold: true}}) {
		t.Errorf("%+v", got)
	}
}

func TestP5Put(t *testing.T) {
	feedAll(t, []feeding{
		{3, 2, "ab", "ab |   ", 2, 0, false}, {3, 2, "abc", "abc|   ", 2, 0, true}, {3, 2, "abcd", "abc|d  ", 1, 1, false}, {3, 2, "abcdefg", "def|g  ", 1, 1, false},
		{4, 2, "ab中", "ab中.|    ", 3, 0, true}, {4, 2, "abc中", "abc |中.  ", 2, 1, false}, {4, 2, "abcd中", "abcd|中.  ", 2, 1, false}, {4, 1, "abc中", "中.  ", 2, 0, false},
		{2, 2, "中国", "中.|国.", 1, 1, true}, {2, 1, "a中", "中.", 1, 0, true}, {1, 1, "中", " ", 0, 0, true}, {1, 3, "a中b", "a| |b", 0, 2, true}, {1, 2, "ab中", "b| ", 0, 1, true},
		{4, 1, "~ ~", "~ ~ ", 3, 0, false}, {3, 2, "abc\u0301", "abc|   ", 2, 0, true}, {3, 2, "abc\u200bd", "abc|d  ", 1, 1, false}, {3, 1, "\u0085\u00a0x", "\u00a0x ", 2, 0, false},
		{5, 1, "中国\x1b[1;2Hx", " x国. ", 2, 0, false}, {5, 1, "中国\x1b[1;4Hx", "中. x ", 4, 0, false}, {5, 1, "中国\x1b[1;2H文", " 文.  ", 3, 0, false}, {5, 1, "中国\x1b[1;4H文", "中. 文.", 4, 0, true},
	})
}

func TestP5Controls(t *testing.T) {
	feedAll(t, []feeding{
		{3, 2, "ab\rc", "cb |   ", 1, 0, false}, {3, 2, "abc\rd", "dbc|   ", 1, 0, false}, {3, 2, "abc\nd", "abc|  d", 2, 1, true}, {3, 2, "\n\n\na", "   |a  ", 1, 1, false},
		{3, 1, "abc\b", "abc", 1, 0, false}, {3, 1, "\ba", "a  ", 1, 0, false}, {1, 1, "a\b", "a", 0, 0, false}, {1, 1, "a\bb", "b", 0, 0, true}, {3, 1, "abc\b\bd", "dbc", 1, 0, false},
		{3, 2, "abc\x00\x01\x07\t\v\f\x0e\x1a\x1c\x1f\x7fd", "abc|d  ", 1, 1, false},
	})
}

func TestP5LettersInUTF8(t *testing.T) {
	feedAll(t, []feeding{
		{4, 1, "é中", "é中. ", 3, 0, false}, {4, 1, "\U0001f600\u00e9", "\U0001f600.é ", 3, 0, false}, {4, 1, "\U0010ffff\ufffd", "\U0010ffff\ufffd  ", 2, 0, false},
		{4, 1, "a\x80\xbf\xc0\xc1\xf5\xffb", "ab  ", 2, 0, false}, {4, 1, "\xc3a", "a   ", 1, 0, false}, {4, 1, "\xc3\xc3\xa9", "é   ", 1, 0, false}, {4, 1, "\xe4\xb8\xe4\xb8\xad", "中.  ", 2, 0, false},
		{4, 1, "\xf0\x9f\x98a", "a   ", 1, 0, false}, {4, 1, "\xf0\x9f\x98\xc3\xa9", "é   ", 1, 0, false}, {4, 1, "\xe4\xb8\x80\x80a", "\u4e00.a ", 3, 0, false},
		{4, 1, "\xe0\x9f\xbfa", "a   ", 1, 0, false}, {4, 1, "\xe0\xa0\x80a", "\u0800a  ", 2, 0, false}, {4, 1, "\xed\x9f\xbfa", "\ud7ffa  ", 2, 0, false}, {4, 1, "\xed\xa0\x80a", "a   ", 1, 0, false},
		{4, 1, "\xf0\x8f\xbf\xbfa", "a   ", 1, 0, false}, {4, 1, "\xf0\x90\x80\x80a", "\U00010000a  ", 2, 0, false}, {4, 1, "\xf4\x8f\xbf\xbfa", "\U0010ffffa  ", 2, 0, false}, {4, 1, "\xf4\x90\x80\x80a", "a   ", 1, 0, false},
		{4, 2, "ab\xe4\nc", "ab  |  c ", 3, 1, false}, {4, 1, "ab\xe4\xb8\rc", "cb  ", 1, 0, false}, {4, 1, "ab\xe4\x07\xb8\xadc", "abc ", 3, 0, false}, {4, 1, "\xe4\xb8\x1b[2Ca", "  a ", 3, 0, false},
		{4, 2, "abcd\xe4\xb8\x7fe", "abcd|e   ", 1, 1, false},
	})
}

func TestP5EscapesAndNumbers(t *testing.T) {
	feedAll(t, []feeding{
		{4, 1, "\x1bca", "a   ", 1, 0, false}, {4, 1, "ab\x1b\rc", "abc ", 3, 0, false}, {4, 2, "ab\x1b\nc", "abc |    ", 3, 0, false}, {4, 1, "\x1b\x1b\x1b[2Ca", "  a ", 3, 0, false}, {4, 1, "\x1b\xe4\xb8\xada", "a   ", 1, 0, false}, {4, 1, "\x1b\x1bx[", "[   ", 1, 0, false},
		{9, 1, "\x1b[05Ca", "     a   ", 6, 0, false}, {9, 1, "\x1b[0Ca", " a       ", 2, 0, false}, {9, 1, "\x1b[;5Ca", " a       ", 2, 0, false}, {9, 1, "\x1b[3;5Ca", "   a     ", 4, 0, false},
		{4, 1, "\x1b[1\x1b[2Ca", "  a ", 3, 0, false}, {4, 1, "\x1b[1\x1b2Ca", "Ca  ", 2, 0, false}, {4, 1, "\x1b[1\xe4\xb8\xadCa", "a   ", 1, 0, false},
		{4, 1, "\x1b[ C\x1b[!C\x1b[/C\x1b[:C\x1b[<C\x1b[?C\x1b[\x7fC\x1b[\x00C\x1b[\rC\x1b[\x80C\x1b[\xffCa", "a   ", 1, 0, false}, {4, 1, "\x1b[?\x1b[Ca", " a  ", 2, 0, false}, {4, 1, "\x1b[1?2;3Ca", "a   ", 1, 0, false},
		{9, 1, "\x1b[2;2;3;4;5;6;7;8Ca", "  a      ", 3, 0, false}, {9, 1, "\x1b[2;2;3;4;5;6;7;8;Ca", "a        ", 1, 0, false}, {9, 1, "\x1b[2;2;3;4;5;6;7;8;9;9;9;9Ca", "a        ", 1, 0, false}, {9, 1, "\x1b[;;;;;;;Ca", " a       ", 2, 0, false}, {9, 1, "\x1b[" + strings.Repeat(";", 1000) + "Ca", "a        ", 1, 0, false},
		{4, 1, "\x1b[" + strings.Repeat("9", 1000) + "Ca", "   a", 3, 0, true}, {4, 1, "\x1b[9223372036854775809Ca", "   a", 3, 0, true}, {4, 1, "\x1b[18446744073709551617Ca", "   a", 3, 0, true},
		{4, 1, "\x1b[@\x1b[~\x1b[h\x1b[za", "a   ", 1, 0, false}, {4, 2, "abcd\x1b[3h\x1b[3z\x1b[?2C\x1b[;;;;;;;;Ae", "abcd|e   ", 1, 1, false},
	})
}

func TestP5CursorSequences(t *testing.T) {
	feedAll(t, []feeding{
		{4, 4, "\x1b[3;3H\x1b[A", "    |    |    |    ", 2, 1, false}, {4, 4, "\x1b[3;3H\x1b[2A", "    |    |    |    ", 2, 0, false}, {4, 4, "\x1b[3;3H\x1b[9A", "    |    |    |    ", 2, 0, false},
		{4, 4, "\x1b[3;3H\x1b[B", "    |    |    |    ", 2, 3, false}, {4, 4, "\x1b[2;3H\x1b[0B", "    |    |    |    ", 2, 2, false}, {4, 4, "\x1b[3;3H\x1b[9999B", "    |    |    |    ", 2, 3, false},
		{4, 1, "\x1b[C", "    ", 1, 0, false}, {4, 1, "\x1b[3C", "    ", 3, 0, false}, {4, 1, "\x1b[4C", "    ", 3, 0, false}, {4, 1, "\x1b[1;4H\x1b[D", "    ", 2, 0, false}, {4, 1, "\x1b[1;4H\x1b[3D", "    ", 0, 0, false}, {4, 1, "\x1b[1;4H\x1b[4D", "    ", 0, 0, false},
		{4, 3, "\x1b[2;3H", "    |    |    ", 2, 1, false}, {4, 3, "\x1b[2H", "    |    |    ", 0, 1, false}, {4, 3, "\x1b[;3H", "    |    |    ", 2, 0, false}, {4, 3, "xx\x1b[H", "xx  |    |    ", 0, 0, false}, {4, 3, "xx\x1b[0;0H", "xx  |    |    ", 0, 0, false}, {4, 3, "\x1b[4;5H", "    |    |    ", 3, 2, false}, {4, 3, "\x1b[9;9H", "    |    |    ", 3, 2, false},
		{2, 2, "ab\x1b[A", "ab|  ", 1, 0, false}, {2, 2, "ab\x1b[C", "ab|  ", 1, 0, false}, {2, 2, "ab\x1b[1;2H", "ab|  ", 1, 0, false}, {2, 2, "ab\x1b[D", "ab|  ", 0, 0, false}, {2, 2, "ab\x1b[B", "ab|  ", 1, 1, false},
		{2, 4, "\x1b[2;3r\x1b[3H\x1b[2B", "  |  |  |  ", 0, 3, false}, {2, 4, "\x1b[2;3r\x1b[2H\x1b[2A", "  |  |  |  ", 0, 0, false}, {2, 4, "\x1b[2;3r\x1b[4;2H", "  |  |  |  ", 1, 3, false},
	})
}

func TestP5EraseSequences(t *testing.T) {
	feedAll(t, []feeding{
		{4, 1, "abcd\x1b[1;3H\x1b[K", "ab  ", 2, 0, false}, {4, 1, "abcd\x1b[1;3H\x1b[0K", "ab  ", 2, 0, false}, {4, 1, "abcd\x1b[1;3H\x1b[;1K", "ab  ", 2, 0, false}, {4, 1, "abcd\x1b[1;3H\x1b[1K", "   d", 2, 0, false}, {4, 1, "abcd\x1b[1;3H\x1b[2K", "    ", 2, 0, false}, {4, 1, "abcd\x1b[1;3H\x1b[3K\x1b[9999K", "abcd", 2, 0, false}, {4, 1, "abcd\x1b[1K", "    ", 3, 0, true}, {4, 1, "abcd\x1b[K", "abc ", 3, 0, true},
		{6, 1, "中国文\x1b[1;4H\x1b[K", "中.    ", 3, 0, false}, {6, 1, "中国文\x1b[1;3H\x1b[1K", "    文.", 2, 0, false}, {6, 1, "中国文\x1b[1;2H\x1b[1K", "  国.文.", 1, 0, false}, {6, 1, "中国文\x1b[1;5H\x1b[K", "中.国.  ", 4, 0, false},
		{2, 3, "abcdef\x1b[2;1H\x1b[J", "ab|  |  ", 0, 1, false}, {2, 3, "abcdef\x1b[2;2H\x1b[0J", "ab|c |  ", 1, 1, false}, {2, 3, "abcdef\x1b[2;2H\x1b[1J", "  |  |ef", 1, 1, false}, {2, 3, "abcdef\x1b[2;1H\x1b[1J", "  | d|ef", 0, 1, false}, {2, 3, "abcdef\x1b[1;2H\x1b[2J", "  |  |  ", 1, 0, false}, {2, 3, "abcdef\x1b[3J", "ab|cd|ef", 1, 2, true}, {2, 3, "abcdef\x1b[J", "ab|cd|e ", 1, 2, true}, {2, 3, "abcdef\x1b[2;3r\x1b[2J", "  |  |  ", 0, 0, false},
		{4, 2, "中国中国\x1b[1;2H\x1b[J", "    |    ", 1, 0, false}, {4, 2, "中国中国\x1b[2;3H\x1b[1J", "    |    ", 2, 1, false},
		{4, 1, "abcd\x1b[1;2H\x1b[X", "a cd", 1, 0, false}, {4, 1, "abcd\x1b[1;2H\x1b[0X", "a cd", 1, 0, false}, {4, 1, "abcd\x1b[1;2H\x1b[2X", "a  d", 1, 0, false}, {4, 1, "abcd\x1b[1;2H\x1b[3X", "a   ", 1, 0, false}, {4, 2, "abcdefgh\x1b[1;2H\x1b[9999X", "a   |efgh", 1, 0, false}, {4, 1, "abcd\x1b[X", "abc ", 3, 0, true},
		{6, 1, "中国文\x1b[1;2H\x1b[2X", "    文.", 1, 0, false}, {6, 1, "中国文\x1b[1;3H\x1b[X", "中.  文.", 2, 0, false},
	})
}

func TestP5ScrollsAndMargins(t *testing.T) {
	const abcd = "a\r\nb\r\nc\r\nd\x1b[2;2H"
	feedAll(t, []feeding{
		{2, 4, abcd + "\x1b[S", "b |c |d |  ", 1, 1, false}, {2, 4, abcd + "\x1b[0S", "b |c |d |  ", 1, 1, false}, {2, 4, abcd + "\x1b[3S", "d |  |  |  ", 1, 1, false}, {2, 4, abcd + "\x1b[4S", "  |  |  |  ", 1, 1, false}, {2, 4, abcd + "\x1b[9999S", "  |  |  |  ", 1, 1, false},
		{2, 4, abcd + "\x1b[T", "  |a |b |c ", 1, 1, false}, {2, 4, abcd + "\x1b[3T", "  |  |  |a ", 1, 1, false}, {2, 4, abcd + "\x1b[9999T", "  |  |  |  ", 1, 1, false}, {1, 2, "ab\x1b[S\x1b[T", " |b", 0, 1, true},
		{2, 4, abcd + "\x1b[2;3r\x1b[S", "a |c |  |d ", 0, 0, false}, {2, 4, abcd + "\x1b[2;3r\x1b[9T", "a |  |  |d ", 0, 0, false}, {2, 4, abcd + "\x1b[2;3r\x1b[3H\n", "a |c |  |d ", 0, 2, false}, {2, 4, abcd + "\x1b[2;3r\x1b[4H\n", "a |b |c |d ", 0, 3, false}, {2, 4, abcd + "\x1b[1;2r\x1b[3H\n", "a |b |c |d ", 0, 3, false}, {2, 4, abcd + "\x1b[3;4r\x1b[1H\n", "a |b |c |d ", 0, 1, false},
		{2, 4, abcd + "\x1b[2;3r\x1b[3Hxyz", "a |xy|z |d ", 1, 2, false}, {2, 4, abcd + "\x1b[2;3r\x1b[4Hxyz", "a |b |c |zy", 1, 3, false}, {2, 4, abcd + "\x1b[1;2r\x1b[4;2Hx\n", "a |b |c |dx", 1, 3, false},
		{2, 4, abcd + "\x1b[3r\x1b[S", "a |b |d |  ", 0, 0, false}, {2, 4, abcd + "\x1b[3;0r\x1b[S", "a |b |d |  ", 0, 0, false}, {2, 4, abcd + "\x1b[3;5r\x1b[S", "a |b |d |  ", 0, 0, false}, {2, 4, abcd + "\x1b[;2r\x1b[S", "b |  |c |d ", 0, 0, false}, {2, 4, abcd + "\x1b[2;3r\x1b[r\x1b[S", "b |c |d |  ", 0, 0, false},
		{2, 4, abcd + "\x1b[2;2r\x1b[S", "b |c |d |  ", 1, 1, false}, {2, 4, abcd + "\x1b[3;2r\x1b[S", "b |c |d |  ", 1, 1, false}, {2, 4, abcd + "\x1b[4r\x1b[S", "b |c |d |  ", 1, 1, false}, {2, 4, abcd + "\x1b[9;9r\x1b[S", "b |c |d |  ", 1, 1, false}, {2, 4, abcd + "\x1b[2;3r\x1b[2;2H\x1b[3;1r\x1b[S", "a |c |  |d ", 1, 1, false},
		{2, 2, "ab\x1b[2;1r", "ab|  ", 1, 0, true}, {2, 2, "ab\x1b[1;2r", "ab|  ", 0, 0, false}, {2, 1, "ab\x1b[r", "ab", 0, 0, false}, {2, 1, "ab\x1b[1;1r", "ab", 0, 0, false}, {2, 1, "ab\x1b[0;9r", "ab", 0, 0, false}, {2, 1, "ab\x1b[2r", "ab", 1, 0, true}, {2, 1, "ab\x1b[2;2r", "ab", 1, 0, true},
	})
	for bytes, want := range map[string][2]int{
		"": {0, 3}, "\x1b[2;3r": {1, 2}, "\x1b[2r": {1, 3}, "\x1b[;2r": {0, 1}, "\x1b[3;99r": {2, 3}, "\x1b[2;3r\x1b[3;3r": {1, 2}, "\x1b[2;3r\x1b[r": {0, 3}, "\x1b[4;4r": {0, 3}, "\x1b[?2;3r": {0, 3},
	} {
		if got := made(t, 2, 4, bytes).State(); got.Top != want[0] || got.Bottom != want[1] {
			t.Errorf("%q: margins %d, %d, want %v", bytes, got.Top, got.Bottom, want)
		}
	}
}

func TestP5Pens(t *testing.T) {
	all := "\x1b[1;4;7;31;42m"
	for bytes, want := range map[string]api.Pen{
		"": {}, all: {Front: 2, Back: 3, Bold: true, Under: true, Reverse: true}, all + "\x1b[m": {}, all + "\x1b[0m": {}, all + "\x1b[;m": {}, all + "\x1b[0;4m": {Under: true}, all + "\x1b[1;;m": {},
		all + "\x1b[22m": {Front: 2, Back: 3, Under: true, Reverse: true}, all + "\x1b[24m": {Front: 2, Back: 3, Bold: true, Reverse: true}, all + "\x1b[27m": {Front: 2, Back: 3, Bold: true, Under: true}, all + "\x1b[39m": {Back: 3, Bold: true, Under: true, Reverse: true}, all + "\x1b[49m": {Front: 2, Bold: true, Under: true, Reverse: true},
		"\x1b[30m": {Front: 1}, "\x1b[37m": {Front: 8}, "\x1b[40m": {Back: 1}, "\x1b[47m": {Back: 8}, "\x1b[31;32;33m": {Front: 4}, "\x1b[1;22m": {}, "\x1b[22;1m": {Bold: true},
		"\x1b[2;3;5;6;8;9;10;21m": {}, "\x1b[23;25;26;28;29;38;48;50m": {}, "\x1b[90;97;100;107;256;287;9999m": {}, "\x1b[1;1;1;1;1;1;1;4m": {Bold: true, Under: true}, "\x1b[1;1;1;1;1;1;1;4;7m": {}, "\x1b[?1m": {}, "\x1b[1 m": {}, "\x1b[01;004m": {Bold: true, Under: true},
	} {
		s := made(t, 4, 1, bytes, "x中")
		got := cells(s)[:3]
		if !slices.Equal(got, []api.Cell{{Rune: 'x', Pen: want}, {Rune: '中', Part: api.Head, Pen: want}, {Rune: '中', Part: api.Tail, Pen: want}}) || s.State().Pen != want {
			t.Errorf("%q: %+v, want %+v", bytes, got, want)
		}
	}
}

func TestP5NumbersThatMeanNoPen(t *testing.T) {
	meant := "\x1b[1;4;7;31;42m"
	want := made(t, 1, 1, meant).State().Pen
	for number := 50; number <= 110; number++ {
		checkPen(t, meant+"\x1b["+strconv.Itoa(number)+"m", want)
	}
	for _, number := range []int{2, 3, 5, 6, 8, 9, 10, 20, 21, 23, 25, 26, 28, 29, 38, 48, 256, 257, 9999} {
		checkPen(t, meant+"\x1b["+strconv.Itoa(number)+"m", want)
	}
}

func checkPen(t *testing.T, bytes string, want api.Pen) {
	t.Helper()
	if got := made(t, 1, 1, bytes).State().Pen; got != want {
		t.Errorf("%q: %+v, want %+v", bytes, got, want)
	}
}

func TestP5WhatIsErasedHasTheBack(t *testing.T) {
	red := api.Cell{Rune: ' ', Pen: api.Pen{Back: 2}}
	const paint = "\x1b[1;4;7;33;41m"
	for _, bytes := range []string{"\x1b[2J", "\x1b[J", "\x1b[S\x1b[S", "\x1b[2T", "\x1b[9X\x1b[2H\x1b[K", "\x1b[2K\x1b[2;2H\x1b[1K", "\n\n\n"} {
		got := cells(made(t, 2, 2, "abcd\x1b[H"+paint+bytes))
		if !slices.Equal(got, []api.Cell{red, red, red, red}) {
			t.Errorf("%q: %+v", bytes, got)
		}
	}
	got := cells(made(t, 2, 1, "ab"+paint+"中"))
	pen := api.Pen{Front: 4, Back: 2, Bold: true, Under: true, Reverse: true}
	if !slices.Equal(got, []api.Cell{{Rune: '中', Part: api.Head, Pen: pen}, {Rune: '中', Part: api.Tail, Pen: pen}}) {
		t.Errorf("a line feed by a letter: %+v", got)
	}
}

func TestP5WhatIsBrokenKeepsItsPen(t *testing.T) {
	under := api.Pen{Front: 2, Back: 3, Under: true}
	broken, erased := api.Cell{Rune: ' ', Pen: under}, api.Cell{Rune: ' ', Pen: api.Pen{Back: 6}}
	for bytes, want := range map[string][]api.Cell{
		"\x1b[1;2H\x1b[X":  {broken, erased},
		"\x1b[1;1H\x1b[X":  {erased, broken},
		"\x1b[1;2H\x1b[K":  {broken, erased},
		"\x1b[1;1H\x1b[1K": {erased, broken},
		"\x1b[1;2H\x1b[J":  {broken, erased},
		"\x1b[1;1H\x1b[1J": {erased, broken},
		"\x1b[1;2H!":       {broken, {Rune: '!', Pen: api.Pen{Front: 4, Back: 6}}},
		"\x1b[1;1H!":       {{Rune: '!', Pen: api.Pen{Front: 4, Back: 6}}, broken},
	} {
		if got := cells(made(t, 2, 1, "\x1b[4;31;42m中\x1b[0;33;45m"+bytes)); !slices.Equal(got, want) {
			t.Errorf("%q: %+v, want %+v", bytes, got, want)
		}
	}
}

func TestP5PendingOutlivesSomeSequences(t *testing.T) {
	for last := byte(64); last <= 126; last++ {
		s := made(t, 3, 2, "\n\rabc\x1b["+string(rune(last)))
		want := !strings.ContainsRune("ABCDHr", rune(last))
		if got := s.State().Pending; got != want {
			t.Errorf("the sequence %c: pending %v, want %v", last, got, want)
		}
	}
}
