package screen

import (
	"casement/api"
	"casement/bounds"
)

// sequence is what has come of a sequence: its numbers, and whether it is one that does nothing.
type sequence struct {
	numbers [api.MaxNumbers]int
	count   int
	bad     bool
}

// digit goes on with the last number.
func (q *sequence) digit(d int) {
	if q.bad {
		return
	}
	q.count = bounds.Greatest(q.count, 1)
	last := &q.numbers[q.count-1]
	*last = bounds.Least(*last*10+d, api.MaxNumber)
}

// separate ends a number, even one without digits, and begins the next.
func (q *sequence) separate() {
	if q.bad {
		return
	}
	q.count = bounds.Greatest(q.count, 1) + 1
	q.bad = q.count > api.MaxNumbers
}

// counted is the number at an index, or another one instead of 0. A number that did not come is 0, too.
func (q *sequence) counted(index, instead int) int {
	if n := q.numbers[index]; n != 0 {
		return n
	}
	return instead
}

// all are the numbers that came, or one 0.
func (q *sequence) all() []int {
	return q.numbers[:bounds.Greatest(q.count, 1)]
}
