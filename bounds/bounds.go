// Package bounds keeps numbers within bounds.
package bounds

// Number is what has bounds in this program: places and counts, letters, bytes.
type Number interface {
	~int | ~int32 | ~uint8
}

// Least tells the lesser of two numbers.
func Least[N Number](a, b N) N {
	if b < a {
		return b
	}
	return a
}

// Greatest tells the greater of two numbers.
func Greatest[N Number](a, b N) N {
	if b > a {
		return b
	}
	return a
}

// Between brings a number into the bounds: it is low at the least and high at the most.
func Between[N Number](n, low, high N) N {
	return Greatest(low, Least(n, high))
}

// Within tells whether a number is in the bounds already; both bounds count as within.
func Within[N Number](n, low, high N) bool {
	return low <= n && n <= high
}
