// Package limb: numbers without a sign, by limbs of 32 bits, the lowest first.
package limb

import (
	"cmp"
	"math/bits"
)

const (
	limbBits = 32
	limbTop  = 1<<limbBits - 1
	maxShift = 4096
)

// Norm is a list's number.
func Norm(l []uint32) []uint32 {
	l = trim(l)
	if len(l) == 0 {
		return nil
	}
	out := make([]uint32, len(l))
	copy(out, l)
	return out
}

// Cmp compares two.
func Cmp(a, b []uint32) int {
	a, b = trim(a), trim(b)
	if len(a) != len(b) {
		return cmp.Compare(len(a), len(b))
	}
	for i := len(a) - 1; i >= 0; i-- {
		if a[i] != b[i] {
			return cmp.Compare(a[i], b[i])
		}
	}
	return 0
}

// Add is a sum.
func Add(a, b []uint32) []uint32 {
	a, b = trim(a), trim(b)
	if len(a) < len(b) {
		a, b = b, a
	}
	out := make([]uint32, len(a)+1)
	copy(out, a)
	addTimes(out, b, 1)
	return trim(out)
}

// Sub is a difference; 0, if the second is above.
func Sub(a, b []uint32) []uint32 {
	if Cmp(a, b) <= 0 {
		return nil
	}
	out := Norm(a)
	takeTimes(out, trim(b), 1)
	return trim(out)
}

// Mul is a product.
func Mul(a, b []uint32) []uint32 {
	a, b = trim(a), trim(b)
	out := make([]uint32, len(a)+len(b))
	for i, x := range a {
		addTimes(out[i:i+len(b)+1], b, x)
	}
	return trim(out)
}

// Div is a quotient, and what is left; both 0, if the divisor is 0.
func Div(a, b []uint32) ([]uint32, []uint32) {
	b = trim(b)
	if len(b) == 0 {
		return nil, nil
	}
	if Cmp(a, b) < 0 {
		return nil, Norm(a)
	}
	// Where the divisor's top bit is set, a guess by its top limb is at most two too great.
	lift := bits.LeadingZeros32(b[len(b)-1])
	left, by := raise(trim(a), lift), trim(raise(b, lift))
	quo := divide(left, by)
	return trim(quo), trim(lower(trim(left), lift))
}

// Shl is a number times 2^n, n cut to from 0 to 4096.
func Shl(a []uint32, n int) []uint32 {
	a = trim(a)
	if len(a) == 0 {
		return nil
	}
	return trim(raise(a, min(max(n, 0), maxShift)))
}

// Shr is a number by 2^n, n below 0 as 0.
func Shr(a []uint32, n int) []uint32 {
	return trim(lower(trim(a), max(n, 0)))
}

// Len is how many bits a number has.
func Len(a []uint32) int {
	a = trim(a)
	if len(a) == 0 {
		return 0
	}
	return (len(a)-1)*limbBits + bits.Len32(a[len(a)-1])
}

// trim is the list's own memory without the 0s at its top. 0 is nil, so that no answer of 0 holds memory.
func trim(l []uint32) []uint32 {
	n := len(l)
	for n > 0 && l[n-1] == 0 {
		n--
	}
	if n == 0 {
		return nil
	}
	return l[:n]
}

// raise is new memory with l times 2^n in it, one limb more than l and the whole limbs of n.
func raise(l []uint32, n int) []uint32 {
	whole, part := n/limbBits, n%limbBits
	out := make([]uint32, whole+len(l)+1)
	copy(out[whole:], l)
	for i := len(out) - 1; i > whole; i-- {
		out[i] = out[i]<<part | out[i-1]>>(limbBits-part)
	}
	out[whole] <<= part
	return out
}

// lower is new memory with l by 2^n in it, cut.
func lower(l []uint32, n int) []uint32 {
	whole, part := n/limbBits, n%limbBits
	if whole >= len(l) {
		return nil
	}
	out := make([]uint32, len(l)-whole)
	copy(out, l[whole:])
	last := len(out) - 1
	for i := range last {
		out[i] = out[i]>>part | out[i+1]<<(limbBits-part)
	}
	out[last] >>= part
	return out
}

// addTimes adds l, so many times, to the number in to; what has no room there is dropped.
func addTimes(to, l []uint32, times uint32) {
	var carry uint64
	for i := range to {
		if i < len(l) {
			carry += uint64(l[i]) * uint64(times)
		}
		carry += uint64(to[i])
		to[i] = uint32(carry)
		carry >>= limbBits
	}
}

// takeTimes takes l, so many times, from the number in from, and tells whether that was enough; if not, addTimes brings back what it was.
func takeTimes(from, l []uint32, times uint32) bool {
	var owed uint64
	for i := range from {
		if i < len(l) {
			owed += uint64(l[i]) * uint64(times)
		}
		low := uint32(owed)
		owed >>= limbBits
		if from[i] < low {
			owed++
		}
		from[i] -= low
	}
	return owed == 0
}

// divide is the quotient of left, which has a limb to spare at its top, by a divisor whose top bit is set; in left stays what is left.
func divide(left, by []uint32) []uint32 {
	quo := make([]uint32, len(left)-len(by))
limbs:
	for at := len(quo) - 1; at >= 0; at-- {
		part := left[at : at+len(by)+1]
		for q := guess(part, by); q > 0; q-- {
			if takeTimes(part, by, q) {
				quo[at] = q
				continue limbs
			}
			addTimes(part, by, q)
		}
	}
	return quo
}

// guess is the quotient of part by by, or at most two more, by the limbs at their tops alone. It is never less, and has room in a limb, since part without its lowest limb is below by.
func guess(part, by []uint32) uint32 {
	n := len(by)
	high := uint64(part[n])<<limbBits | uint64(part[n-1])
	return uint32(min(high/uint64(by[n-1]), limbTop))
}
