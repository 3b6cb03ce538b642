package limb

import (
	"math"
	"math/big"
	"slices"
	"testing"
)

const top = math.MaxUint32

func l(x ...uint32) []uint32 { return x }

// value is the list's number by the library's own means, so that the tests don't lean on what they test.
func value(l []uint32) *big.Int {
	v := new(big.Int)
	for i := len(l) - 1; i >= 0; i-- {
		v.Lsh(v, 32).Add(v, big.NewInt(int64(l[i])))
	}
	return v
}

func limbs(v *big.Int) []uint32 {
	var out []uint32
	low, rest := new(big.Int), new(big.Int).Set(v)
	for rest.Sign() > 0 {
		low.And(rest, big.NewInt(top))
		out = append(out, uint32(low.Uint64()))
		rest.Rsh(rest, 32)
	}
	return out
}

func expect(t *testing.T, what string, got, want []uint32, from ...any) {
	t.Helper()
	if !slices.Equal(got, want) {
		t.Errorf("%s of %v: %v, not %v", what, from, got, want)
	}
}

// dice throws the same lists at every run: limbs at the edges are as likely as any others, and so are 0s at the top.
type dice uint64

func (d *dice) next() uint32 {
	*d = *d*6364136223846793005 + 1442695040888963407
	return uint32(*d >> 33)
}

func (d *dice) list(most int) []uint32 {
	edges := []uint32{0, 0, 1, 2, 1 << 16, 1<<31 - 1, 1 << 31, 1<<31 + 1, top - 1, top, top}
	out := make([]uint32, int(d.next())%(most+1))
	for i := range out {
		if d.next()%3 == 0 {
			out[i] = d.next()<<8 ^ d.next()
		} else {
			out[i] = edges[int(d.next())%len(edges)]
		}
	}
	return out
}

// P1.1

func TestNorm(t *testing.T) {
	for _, x := range []struct{ l, want []uint32 }{
		{nil, nil},
		{l(), nil},
		{l(0), nil},
		{l(0, 0, 0), nil},
		{l(7), l(7)},
		{l(7, 0), l(7)},
		{l(0, 7, 0, 0), l(0, 7)},
		{l(0, 0, 1), l(0, 0, 1)},
		{l(top, 0, top), l(top, 0, top)},
	} {
		expect(t, "Norm", Norm(x.l), x.want, x.l)
	}
}

func TestCmp(t *testing.T) {
	for _, x := range []struct {
		a, b []uint32
		want int
	}{
		{nil, nil, 0},
		{nil, l(0, 0), 0},
		{l(0), l(1), -1},
		{l(1), l(1, 0, 0), 0},
		{l(1, 0, 0), l(2), -1},
		{l(top), l(0, 1), -1},
		{l(1, 2), l(2, 1), 1},
		{l(1, 1), l(2, 1), -1},
		{l(1<<31 + 1), l(1), 1},
		{l(5, 0, 7), l(4, 1, 7), -1},
		{l(5, 6, 7), l(5, 6, 7), 0},
	} {
		if got := Cmp(x.a, x.b); got != x.want {
			t.Errorf("Cmp(%v, %v): %d, not %d", x.a, x.b, got, x.want)
		}
		if got := Cmp(x.b, x.a); got != -x.want {
			t.Errorf("Cmp(%v, %v): %d, not %d", x.b, x.a, got, -x.want)
		}
	}
}

func TestAdd(t *testing.T) {
	for _, x := range []struct{ a, b, want []uint32 }{
		{nil, nil, nil},
		{l(0, 0), l(0), nil},
		{l(1), nil, l(1)},
		{l(1, 0), l(2, 0, 0), l(3)},
		{l(top), l(1), l(0, 1)},
		{l(top, top, top), l(1), l(0, 0, 0, 1)},
		{l(top, 0), l(top, 0), l(top-1, 1)},
		{l(top, top), l(top, top), l(top-1, top, 1)},
		{l(1, 0, 5), l(top), l(0, 1, 5)},
	} {
		expect(t, "Add", Add(x.a, x.b), x.want, x.a, x.b)
		expect(t, "Add", Add(x.b, x.a), x.want, x.b, x.a)
	}
}

func TestSub(t *testing.T) {
	for _, x := range []struct{ a, b, want []uint32 }{
		{nil, nil, nil},
		{l(5), nil, l(5)},
		{l(5, 0), l(0, 0, 0), l(5)},
		{l(5), l(3), l(2)},
		{l(3), l(5), nil},
		{l(top), l(0, 1), nil},
		{nil, l(1), nil},
		{l(4, 9), l(5, 9), nil},
		{l(7, 8), l(7, 8, 0), nil},
		{l(0, 0, 1), l(1), l(top, top)},
		{l(1, 2), l(2, 1), l(top)},
		{l(5, 0, 0, 0), l(5, 0), nil},
		{l(0, 1), l(top), l(1)},
	} {
		expect(t, "Sub", Sub(x.a, x.b), x.want, x.a, x.b)
	}
}

func TestMul(t *testing.T) {
	for _, x := range []struct{ a, b, want []uint32 }{
		{nil, nil, nil},
		{nil, l(9), nil},
		{l(0, 0), l(9, 9), nil},
		{l(3), l(5), l(15)},
		{l(3, 0), l(5, 0, 0), l(15)},
		{l(top), l(top), l(1, top-1)}, // the chapter's example
		{l(0, 1), l(0, 0, 1), l(0, 0, 0, 1)},
		{l(top, top), l(top, top), l(1, 0, top-1, top)},
		{l(1, 0, 1), l(1, 0, 1), l(1, 0, 2, 0, 1)},
		{l(1 << 31), l(2), l(0, 1)},
		{l(top, top, top), l(top), l(1, top, top, top-1)},
	} {
		expect(t, "Mul", Mul(x.a, x.b), x.want, x.a, x.b)
		expect(t, "Mul", Mul(x.b, x.a), x.want, x.b, x.a)
	}
}

func TestDiv(t *testing.T) {
	for _, x := range []struct{ a, b, quo, rem []uint32 }{
		{nil, nil, nil, nil},
		{l(7), nil, nil, nil},
		{l(7, 8, 9), l(0, 0), nil, nil},
		{nil, l(7), nil, nil},
		{l(0, 0), l(7), nil, nil},
		{l(7), l(2), l(3), l(1)},
		{l(7, 0), l(2, 0, 0), l(3), l(1)},
		{l(2), l(7), nil, l(2)},
		{l(2, 0), l(0, 1), nil, l(2)},
		{l(7), l(7), l(1), nil},
		{l(5, 6), l(1), l(5, 6), nil},
		{l(0, 0, 1), l(3), l(0x55555555, 0x55555555), l(1)},
		{l(9, 0, 1), l(0, 0, 1, 0), l(1), l(9)},
		{l(0, 0, 0, 1), l(top), l(1, 1, 1), l(1)},
		{l(1, 0, top-1, top), l(top, top), l(top, top), nil},
		// Guesses by the top limb that are too great, or have no room in a limb.
		{l(3, 0, 1<<31), l(1, 0, 1<<29), l(3), l(0, 0, 1<<29)},
		{l(0, 0, 1<<31, 1<<31-1), l(1, 0, 1<<31), l(top - 1), l(2, top, 1<<31-1)},
		{l(0, 0, 0, 1<<31), l(1, 0, 1<<31), l(top), l(1, top, 1<<31-1)},
		{l(0, 0, 1<<31), l(1, 1<<31), l(top), l(1, 1<<31-1)},
		{l(0, 1<<31, 1<<31), l(top, 1<<31), l(top), l(top, 1)},
	} {
		quo, rem := Div(x.a, x.b)
		expect(t, "the quotient", quo, x.quo, x.a, x.b)
		expect(t, "what is left", rem, x.rem, x.a, x.b)
	}
}

func TestShifts(t *testing.T) {
	for _, x := range []struct {
		a        []uint32
		n        int
		up, down []uint32
	}{
		{nil, 0, nil, nil},
		{nil, 4096, nil, nil},
		{l(0, 0), 33, nil, nil},
		{l(6), 0, l(6), l(6)},
		{l(6, 0), 0, l(6), l(6)},
		{l(6, 0), 1, l(12), l(3)},
		{l(6), -1, l(6), l(6)},
		{l(6, 0), math.MinInt, l(6), l(6)},
		{l(1), 31, l(1 << 31), nil},
		{l(1), 32, l(0, 1), nil},
		{l(top), 32, l(0, top), nil},
		{l(top), 31, l(1<<31, top>>1), l(1)},
		{l(0, 2), 33, l(0, 0, 4), l(1)},
		{l(top, top), 1, l(top-1, top, 1), l(top, top>>1)},
		{l(5, 6, 7, 0), 64, l(0, 0, 5, 6, 7), l(7)},
		{l(5, 6, 7), 96, l(0, 0, 0, 5, 6, 7), nil},
	} {
		expect(t, "Shl", Shl(x.a, x.n), x.up, x.a, x.n)
		expect(t, "Shr", Shr(x.a, x.n), x.down, x.a, x.n)
	}
}

func TestFarShifts(t *testing.T) {
	far := append(make([]uint32, 128), 3)
	expect(t, "Shl", Shl(l(3), 4096), far, 3, 4096)
	for _, n := range []int{4097, 4128, 1 << 20, math.MaxInt} {
		expect(t, "Shl", Shl(l(3), n), far, 3, n)
	}
	for _, n := range []int{4098, 4128, 1 << 20, math.MaxInt} {
		expect(t, "Shr", Shr(far, n), nil, "3 * 2^4096", n)
	}
	expect(t, "Shr", Shr(far, 4096), l(3), "3 * 2^4096", 4096)
	long := append(make([]uint32, 200), 5)
	expect(t, "Shr", Shr(long, 6400), l(5), "5 * 2^6400", 6400) // Shr's n is not cut to 4096
}

func TestLen(t *testing.T) {
	for _, x := range []struct {
		a    []uint32
		want int
	}{
		{nil, 0},
		{l(0), 0},
		{l(0, 0, 0), 0},
		{l(1), 1},
		{l(1, 0), 1},
		{l(2), 2},
		{l(255), 8},
		{l(1 << 31), 32},
		{l(top), 32},
		{l(0, 1), 33},
		{l(top, top, 0), 64},
		{l(0, 0, 200), 72},
	} {
		if got := Len(x.a); got != x.want {
			t.Errorf("Len(%v): %d, not %d", x.a, got, x.want)
		}
	}
}

func TestAgainstLibrary(t *testing.T) {
	d := dice(1)
	for range 20000 {
		a, b := d.list(9), d.list(6)
		x, y := value(a), value(b)
		expect(t, "Norm", Norm(a), limbs(x), a)
		expect(t, "Add", Add(a, b), limbs(new(big.Int).Add(x, y)), a, b)
		expect(t, "Mul", Mul(a, b), limbs(new(big.Int).Mul(x, y)), a, b)
		diff := new(big.Int).Sub(x, y)
		if diff.Sign() < 0 {
			diff.SetInt64(0)
		}
		expect(t, "Sub", Sub(a, b), limbs(diff), a, b)
		quo, rem := new(big.Int), new(big.Int)
		if y.Sign() > 0 {
			quo.QuoRem(x, y, rem)
		}
		q, r := Div(a, b)
		expect(t, "the quotient", q, limbs(quo), a, b)
		expect(t, "what is left", r, limbs(rem), a, b)
		n := int(d.next()) % 400
		expect(t, "Shl", Shl(a, n), limbs(new(big.Int).Lsh(x, uint(n))), a, n)
		expect(t, "Shr", Shr(a, n), limbs(new(big.Int).Rsh(x, uint(n))), a, n)
		if Cmp(a, b) != x.Cmp(y) || Len(a) != x.BitLen() {
			t.Errorf("Cmp, Len of %v, %v: %d, %d", a, b, Cmp(a, b), Len(a))
		}
		if t.Failed() {
			return
		}
	}
}

// P1.2

func TestQuotientUndoesProduct(t *testing.T) {
	d := dice(2)
	for range 5000 {
		a, b := d.list(8), append(d.list(8), d.next()|1)
		quo, rem := Div(Mul(a, b), b)
		expect(t, "the quotient of a product", quo, Norm(a), a, b)
		expect(t, "what is left of a product", rem, nil, a, b)
	}
}

func TestProductUndoesQuotient(t *testing.T) {
	d := dice(3)
	for range 5000 {
		a, b := d.list(12), append(d.list(6), d.next()|1)
		quo, rem := Div(a, b)
		expect(t, "quotient, product and sum", Add(Mul(quo, b), rem), Norm(a), a, b)
		if Cmp(rem, b) >= 0 {
			t.Errorf("what is left of %v by %v is not below: %v", a, b, rem)
		}
	}
}

func TestShiftsUndoOneAnother(t *testing.T) {
	d := dice(4)
	for n := -1; n <= 4096; n++ {
		a := d.list(8)
		expect(t, "Shr of Shl", Shr(Shl(a, n), n), Norm(a), a, n)
		low := Sub(a, Shl(Shr(a, n), n))
		if Len(low) > max(n, 0) {
			t.Errorf("Shl of Shr of %v by %d is off by %v", a, n, low)
		}
	}
}

func TestShiftsAreProductsAndQuotients(t *testing.T) {
	d := dice(5)
	for n := range 300 {
		a, power := d.list(12), Shl(l(1), n)
		quo, _ := Div(a, power)
		expect(t, "Shl", Shl(a, n), Mul(a, power), a, n)
		expect(t, "Shr", Shr(a, n), quo, a, n)
	}
}

// R3

// roomy is a list with spare room that is filled with marks.
func roomy(l []uint32) []uint32 {
	out := append(slices.Clone(l), 0xabcd, 0xabcd, 0xabcd)
	return out[:len(l)]
}

func spoil(l []uint32) {
	l = l[:cap(l)]
	for i := range l {
		l[i] = ^l[i] + 1
	}
}

// calls are all the functions that answer lists.
func calls(a, b []uint32) [][]uint32 {
	quo, rem := Div(a, b)
	none, whole := Div(b, a)
	return [][]uint32{Norm(a), Add(a, b), Sub(a, b), Sub(b, a), Mul(a, b), Shl(a, 0), Shl(a, 64), Shl(b, 5), Shr(a, 0), Shr(a, 32), Shr(b, 3), Shr(b, -1), quo, rem, none, whole}
}

func TestListsStayAsTheyWere(t *testing.T) {
	for _, x := range []struct{ a, b []uint32 }{
		{nil, nil},
		{l(7), nil},
		{l(7, 8, 9), l(1)},
		{l(7, 8, 9), l(5, 6)},
		{l(7, 8, 9, 0, 0), l(5, 1<<31, 0)},
		{l(1<<31, 1<<31), l(top, 1)},
		{l(4, 5), l(4, 5)},
	} {
		a, b := roomy(x.a), roomy(x.b)
		wholeA, wholeB := slices.Clone(a[:cap(a)]), slices.Clone(b[:cap(b)])
		first := calls(a, b)
		kept := make([][]uint32, len(first))
		for i, got := range first {
			kept[i] = slices.Clone(got)
		}
		for i, got := range first {
			expect(t, "an answer shares memory with another: that", got, kept[i], i, a, b)
			spoil(got)
		}
		Cmp(a, b)
		Len(a)
		if !slices.Equal(a[:cap(a)], wholeA) || !slices.Equal(b[:cap(b)], wholeB) {
			t.Errorf("%v, %v were changed, or are shared by an answer", x.a, x.b)
		}
		again := calls(a, b)
		spoil(a)
		spoil(b)
		for i, got := range again {
			expect(t, "what was handed in is kept: the answer", got, kept[i], i, x.a, x.b)
		}
	}
}

func TestOneListTwice(t *testing.T) {
	a := l(top, 7, 1<<31)
	expect(t, "Add", Add(a, a), Shl(a, 1), a, a)
	expect(t, "Sub", Sub(a, a), nil, a, a)
	expect(t, "Mul", Mul(a, a), limbs(new(big.Int).Mul(value(a), value(a))), a, a)
	quo, rem := Div(a, a)
	expect(t, "the quotient", quo, l(1), a, a)
	expect(t, "what is left", rem, nil, a, a)
	expect(t, "the list", a, l(top, 7, 1<<31))
}

// R1

func TestLongListsEnd(t *testing.T) {
	long := slices.Repeat(l(top), 3000)
	quo, rem := Div(Mul(long, long), long)
	expect(t, "the quotient", quo, long)
	expect(t, "what is left", rem, nil)
	if Len(long) != 96000 || Len(Shl(long, 5000)) != 96000+4096 || Cmp(long, Sub(long, l(1))) != 1 {
		t.Error("long lists")
	}
}
