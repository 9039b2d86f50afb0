package paint

import (
	"strconv"
	"strings"
)

// sequence tells a sequence by its last byte and its numbers. A number may be empty: no digits are 0.
func sequence(last string, numbers ...string) string {
	return "\x1b[" + strings.Join(numbers, ";") + last
}

// count tells a number for a sequence that takes none for 1.
func count(n int) string {
	if n == 1 {
		return ""
	}
	return strconv.Itoa(n)
}

// along tells the sequence for so many lines or columns onward, or back, if they are below 0. They are not 0: a sequence takes that for 1.
func along(by int, onward, back string) string {
	if by < 0 {
		return sequence(back, count(-by))
	}
	return sequence(onward, count(by))
}

// place tells the sequence that brings the cursor to a place, wherever it was.
func place(x, y int) string {
	if x == 0 {
		return sequence("H", count(y+1))
	}
	return sequence("H", count(y+1), count(x+1))
}
