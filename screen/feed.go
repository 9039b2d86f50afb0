package screen

import (
	"unicode/utf8"

	"casement/bounds"
	"casement/letters"
)

// mode says how the next byte is taken.
type mode int

const (
	ground mode = iota
	inEscape
	inSequence
)

const escape = 27

// Feed lets bytes come, one by one.
func (s *Screen) Feed(bytes string) {
	for i := range len(bytes) {
		s.take(bytes[i])
	}
}

func (s *Screen) take(b byte) {
	switch s.mode {
	case inEscape:
		s.takeInEscape(b)
	case inSequence:
		s.takeInSequence(b)
	default:
		s.takeInGround(b)
	}
}

func (s *Screen) takeInGround(b byte) {
	if !s.begun.Empty() && s.goesOn(b) {
		return
	}
	switch {
	case b == '\r':
		s.goTo(0, s.y)
	case b == '\n':
		s.lineFeed()
	case b == '\b':
		s.goTo(s.x-1, s.y)
	case b == escape:
		s.mode = inEscape
	case b < utf8.RuneSelf:
		// All other controls come here too: they have the width 0, so nothing happens.
		s.put(rune(b))
	default:
		s.goesOn(b)
	}
}

// goesOn lets a byte begin a letter or go on with it, and tells whether it did. If not, no letter is begun any more.
func (s *Screen) goesOn(b byte) bool {
	letter, step := s.begun.Add(b)
	if step == letters.Complete {
		s.put(letter)
	}
	return step != letters.Refused
}

func (s *Screen) takeInEscape(b byte) {
	switch b {
	case '[':
		s.mode = inSequence
		s.sequence = sequence{}
	case escape:
	default:
		s.mode = ground
	}
}

func (s *Screen) takeInSequence(b byte) {
	switch {
	case bounds.Within(b, '0', '9'):
		s.sequence.digit(int(b - '0'))
	case b == ';':
		s.sequence.separate()
	case bounds.Within(b, 64, 126):
		s.mode = ground
		if !s.sequence.bad {
			s.do(b)
		}
	case b == escape:
		s.mode = inEscape
	default:
		s.sequence.bad = true
	}
}
