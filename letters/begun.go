package letters

import "unicode/utf8"

// Begun holds the bytes of a letter in UTF-8 that is not whole yet.
type Begun struct {
	bytes [utf8.UTFMax]byte
	count int
}

// Step is what a byte does to a letter that is begun, or to none.
type Step int

const (
	Refused  Step = iota // no valid letter goes on, or begins, with this byte
	Open                 // more bytes are needed
	Complete             // the letter is whole
)

// Empty tells whether no letter is begun.
func (b *Begun) Empty() bool { return b.count == 0 }

// Add lets one more byte come. Unless the letter stays open, none is begun afterwards;
// the letter that is answered counts only if it is complete.
func (b *Begun) Add(next byte) (rune, Step) {
	b.bytes[b.count] = next
	b.count++
	come := b.bytes[:b.count]
	// FullRune takes bytes that can't become a letter for a full one, so it sorts out both ends.
	if !utf8.FullRune(come) {
		return 0, Open
	}
	r, size := utf8.DecodeRune(come)
	b.count = 0
	if r == utf8.RuneError && size <= 1 {
		return 0, Refused
	}
	return r, Complete
}
