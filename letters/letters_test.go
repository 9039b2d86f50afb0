package letters

import (
	"math"
	"testing"
	"unicode/utf8"
)

// spans are the widths that are not 1, by the letters from the first to the last.
var spans = []struct {
	first, last rune
	width       int
}{
	{math.MinInt32, 31, 0}, {127, 159, 0}, {768, 879, 0}, {8203, 8207, 0}, {55296, 57343, 0}, {1114112, math.MaxInt32, 0},
	{4352, 4447, 2}, {11904, 42191, 2}, {44032, 55203, 2}, {63744, 64255, 2}, {65072, 65103, 2}, {65280, 65376, 2}, {65504, 65510, 2}, {127744, 128591, 2}, {131072, 262141, 2},
}

func wanted(r rune) int {
	for _, s := range spans {
		if s.first <= r && r <= s.last {
			return s.width
		}
	}
	return 1
}

func TestWidthOfEveryLetter(t *testing.T) {
	for r := rune(-1000); r <= utf8.MaxRune+1000; r++ {
		if got := Width(r); got != wanted(r) {
			t.Fatalf("Width(%d): %d, want %d", r, got, wanted(r))
		}
	}
}

func TestWidthOfFarNumbers(t *testing.T) {
	for _, r := range []rune{math.MinInt32, math.MinInt32 + 1, math.MaxInt32 - 1, math.MaxInt32} {
		if got := Width(r); got != 0 {
			t.Errorf("Width(%d): %d, want 0", r, got)
		}
	}
}

func TestEveryLetterByItsBytes(t *testing.T) {
	var b Begun
	for r := rune(0); r <= utf8.MaxRune; r++ {
		if !utf8.ValidRune(r) {
			continue
		}
		text := string(r)
		for i := range len(text) {
			got, step := b.Add(text[i])
			last := i == len(text)-1
			if last && (step != Complete || got != r || !b.Empty()) || !last && (step != Open || b.Empty()) {
				t.Fatalf("byte %d of %q: %d, step %d", i, text, got, step)
			}
		}
	}
}

func TestBytesThatAreRefused(t *testing.T) {
	for _, text := range []string{
		"\x80", "\xbf", "\xc0", "\xc1", "\xf5", "\xff",
		"\xc3a", "\xc3\xc3", "\xe0\x9f", "\xed\xa0", "\xf0\x8f", "\xf4\x90",
		"\xe4\xb8a", "\xe4\xb8\xe4", "\xf0\x9f\x98\x1b", "\xf0\x9f\x98\xf0",
	} {
		var b Begun
		for i := range len(text) {
			_, step := b.Add(text[i])
			if last := i == len(text)-1; last != (step == Refused) || last != b.Empty() {
				t.Errorf("byte %d of %q: step %d, empty %v", i, text, step, b.Empty())
			}
		}
	}
}
