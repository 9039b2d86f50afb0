// Package letters knows how wide letters are, and how bytes become letters.
package letters

import (
	"unicode/utf8"

	"casement/bounds"
)

// Width tells how many cells a letter takes: 0, 1 or 2.
func Width(r rune) int {
	switch {
	case takesNothing(r):
		return 0
	case isWide(r):
		return 2
	}
	return 1
}

func takesNothing(r rune) bool {
	return !utf8.ValidRune(r) ||
		r < 32 ||
		bounds.Within(r, 127, 159) ||
		bounds.Within(r, 768, 879) ||
		bounds.Within(r, 8203, 8207)
}

func isWide(r rune) bool {
	return bounds.Within(r, 4352, 4447) ||
		bounds.Within(r, 11904, 42191) ||
		bounds.Within(r, 44032, 55203) ||
		bounds.Within(r, 63744, 64255) ||
		bounds.Within(r, 65072, 65103) ||
		bounds.Within(r, 65280, 65376) ||
		bounds.Within(r, 65504, 65510) ||
		bounds.Within(r, 127744, 128591) ||
		bounds.Within(r, 131072, 262141)
}
