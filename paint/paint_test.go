package paint

import (
	"testing"

	"casement/api"
	"casement/screen"
)

// wantBytes wants what makes one screen show what another shows, in as many bytes as those, and that the screen itself stays as it is.
func wantBytes(t *testing.T, from, to *screen.Screen, want string) {
	t.Helper()
	state, before := from.State(), cells(from)
	got := Bytes(from, cells(to))
	if len(got) != len(want) {
		t.Errorf("told %q, want as many bytes as %q", got, want)
	}
	if from.State() != state || !sameCells(cells(from), before) {
		t.Errorf("the screen itself was changed")
	}
	from.Feed(got)
	if !sameCells(cells(from), cells(to)) {
		t.Errorf("%q does not show the picture", got)
	}
}

func TestBytes(t *testing.T) {
	for _, c := range []struct {
		what, from, to, want string
	}{
		{"nothing", "abc", "abc", ""},
		{"one letter", "\x1b[H", "x", "x"},
		{"a text across the end of a line", "", "abcdefghijkl", "abcdefghijkl"},
		{"two letters apart, and what lies between once more", "abc\r", "xby", "xby"},
		{"two letters far apart", "abcdefgh\r", "xbcdefgy", "x\x1b[6Cy"},
		{"the pen changes between what is written once more", "a\x1b[1mbc\x1b[m\r", "a\x1b[1mbx", "a\x1b[1mbx"},
		{"a tail that breaks by itself", "中\r", "a \r", "a"},
		{"a wide letter instead of two halves", "中国\x1b[H", " 中 ", " 中"},
		{"the rest of a line", "abcdefgh\r\nx\x1b[H", "ab\r\nx", "ab\x1b[K"},
		{"the rest of all lines", "abcdefgh\r\nabc\r\nd\x1b[H", "ab", "ab\x1b[J"},
		{"little of a line and much below it", "xa\r\nabcdefgh\r\nabcd\x1b[;2H", "x", "\x1b[J"},
		{"a line behind the end of another", "\x1b[2Habcdefgh\x1b[3Hx\x1b[;8H", "\x1b[;8Hz\x1b[3Hx", "z\r\n\x1b[K"},
		{"a short stretch of a line", "abcdefgh\x1b[H", "abc    h", "abc    "},
		{"a long stretch of a line", "abcdefgh\x1b[H", "a      h", "a\x1b[6X"},
		{"a stretch of which little differs", "abc    h\x1b[H", "a      h", "a  "},
		{"a rest of which little differs", "abc\r\nx\x1b[H", "a\r\nx", "a  "},
		{"the last line", "\x1b[3Habcdefgh\x1b[3H", "\x1b[3Hab", "ab\x1b[J"},
		{"erased with a back", "\x1b[1;31m", "\x1b[44m\x1b[2K", "\x1b[44m\x1b[K"},
		{"blanks that are more than a back", "", "\x1b[4m        ", "\x1b[4m        "},
	} {
		t.Run(c.what, func(t *testing.T) {
			wantBytes(t, written(8, 3, c.from), written(8, 3, c.to), c.want)
		})
	}
}

func TestBytesScroll(t *testing.T) {
	const four = "\x1b[Habcdefgh\x1b[2Hbcdefgha\x1b[3Hcdefghab\x1b[4Hdefghabc"
	for _, c := range []struct {
		what, then, to, want string
	}{
		{"one up", "", "\x1b[S", "\x1b[S"},
		{"two down", "", "\x1b[2T", "\x1b[2T"},
		{"all away", "", "\x1b[2J", "\x1b[4S"},
		{"with the back that the pen has", "\x1b[1;44m", "\x1b[S", "\x1b[49m\x1b[S"},
		{"with another letter", "\x1b[H", "\x1b[S\x1b[H!", "\x1b[S!"},
		{"a back in the line that comes", "", "\x1b[42m\x1b[S", "\x1b[S\x1b[42m\x1b[J"},
	} {
		t.Run(c.what, func(t *testing.T) {
			wantBytes(t, written(8, 4, four, "\x1b[4H", c.then), written(8, 4, four, c.to), c.want)
		})
	}
	t.Run("not, where this takes more bytes", func(t *testing.T) {
		wantBytes(t, written(1, 2, "ab\x1b[H"), written(1, 2, "b"), "b ")
	})
}

func TestAlikeAndIsAll(t *testing.T) {
	a, b := api.Cell{Rune: 'a'}, api.Cell{Rune: 'b'}
	for want, line := range [][]api.Cell{{}, {a, b, a}, {a, a, b}, {a, a, a}} {
		if got := alike(line); got != want {
			t.Errorf("alike(%v): %d", line, got)
		}
	}
	for _, c := range []struct {
		lines [][]api.Cell
		want  bool
	}{
		{nil, true}, {[][]api.Cell{{a, a}}, true}, {[][]api.Cell{{a, a}, {a, b}}, false}, {[][]api.Cell{{b, b}, {a, a}}, false},
	} {
		if got := isAll(c.lines, a); got != c.want {
			t.Errorf("isAll(%v): %v", c.lines, got)
		}
	}
}
