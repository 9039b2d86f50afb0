package bounds

import (
	"math"
	"testing"
)

func TestLeastAndGreatest(t *testing.T) {
	for _, c := range [][4]int{{1, 2, 1, 2}, {2, 1, 1, 2}, {3, 3, 3, 3}, {-1, 0, -1, 0}, {math.MinInt, math.MaxInt, math.MinInt, math.MaxInt}} {
		if least, greatest := Least(c[0], c[1]), Greatest(c[0], c[1]); least != c[2] || greatest != c[3] {
			t.Errorf("of %d and %d: %d, %d, want %d, %d", c[0], c[1], least, greatest, c[2], c[3])
		}
	}
}

func TestBetweenAndWithin(t *testing.T) {
	for _, c := range []struct {
		n, low, high, between int
		within                bool
	}{
		{5, 0, 9, 5, true}, {0, 0, 9, 0, true}, {9, 0, 9, 9, true},
		{-1, 0, 9, 0, false}, {10, 0, 9, 9, false},
		{math.MinInt, -3, 3, -3, false}, {math.MaxInt, -3, 3, 3, false},
	} {
		if got := Between(c.n, c.low, c.high); got != c.between {
			t.Errorf("Between(%d, %d, %d): %d, want %d", c.n, c.low, c.high, got, c.between)
		}
		if got := Within(c.n, c.low, c.high); got != c.within {
			t.Errorf("Within(%d, %d, %d): %v, want %v", c.n, c.low, c.high, got, c.within)
		}
	}
}

func TestOtherKindsOfNumbers(t *testing.T) {
	if Least('b', 'a') != 'a' || Between(byte(200), 0, 127) != 127 || !Within(byte('5'), '0', '9') {
		t.Error("letters and bytes have bounds too")
	}
}
