// Package amount reckons with int64 and tells when a result leaves its range: see DOC.md, chapter 1.
package amount

import (
	"math"
	"math/bits"
)

// Add tells a + b, and whether an int64 can hold it.
func Add(a, b int64) (int64, bool) {
	sum := a + b
	// The sum has wrapped round just when it lies on the wrong side of a.
	if (sum < a) != (b < 0) {
		return 0, false
	}
	return sum, true
}

// Sub tells a - b, and whether an int64 can hold it.
func Sub(a, b int64) (int64, bool) {
	diff := a - b
	// As in Add; not by Neg, since the least int64 has no opposite but may be taken from a negative.
	if (diff > a) != (b < 0) {
		return 0, false
	}
	return diff, true
}

// Mul tells a by b, and whether an int64 can hold it.
func Mul(a, b int64) (int64, bool) {
	hi, lo := bits.Mul64(Size(a), Size(b))
	if hi != 0 {
		return 0, false
	}
	return signed(lo, (a < 0) != (b < 0))
}

// Neg tells the opposite of a, and whether an int64 can hold it.
func Neg(a int64) (int64, bool) {
	return Sub(0, a)
}

// Size tells a without its sign; a uint64 holds that of the least int64, too.
func Size(a int64) uint64 {
	if a < 0 {
		return -uint64(a)
	}
	return uint64(a)
}

// Sum tells the sum of all, and whether an int64 can hold it, whatever the sums on the way are.
func Sum(l []int64) (int64, bool) {
	// 128 bits in two's complement: no list that fits in memory leaves them on the way.
	var hi, lo uint64
	for _, x := range l {
		var carry uint64
		lo, carry = bits.Add64(lo, uint64(x), 0)
		hi, _ = bits.Add64(hi, signWord(x), carry)
	}
	sum := int64(lo)
	if hi != signWord(sum) {
		return 0, false
	}
	return sum, true
}

// Least tells the place of the least one, of several the first; false of none.
func Least(l []int64) (int, bool) {
	if len(l) == 0 {
		return 0, false
	}
	at := 0
	for i, x := range l {
		if x < l[at] {
			at = i
		}
	}
	return at, true
}

// signed gives a size its sign, and tells whether an int64 can hold that.
func signed(size uint64, below bool) (int64, bool) {
	if below {
		if size > 1<<63 {
			return 0, false
		}
		// 1<<63 wraps round twice, to the least int64, which is right.
		return -int64(size), true
	}
	if size > math.MaxInt64 {
		return 0, false
	}
	return int64(size), true
}

// signWord is the upper word of x as a number of 128 bits.
func signWord(x int64) uint64 {
	return uint64(x >> 63)
}
