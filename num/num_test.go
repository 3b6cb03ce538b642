package num

import (
	"math"
	"math/big"
	"slices"
	"strings"
	"testing"

	"relict/api"
)

const top = math.MaxUint32

func pos(l ...uint32) api.Num { return api.Num{L: l} }

func neg(l ...uint32) api.Num { return api.Num{Neg: true, L: l} }

// fill is a list of so many limbs that are the same, and one behind them.
func fill(x uint32, n int, last uint32) []uint32 { return append(slices.Repeat([]uint32{x}, n), last) }

// most is the greatest number there may be.
func most() api.Num { return pos(fill(top, 11, top)...) }

// least is the one furthest below 0.
func least() api.Num { return neg(fill(top, 11, top)...) }

// highest is the greatest power of 2.
func highest() api.Num { return pos(fill(0, 11, 1<<31)...) }

func ref(n api.Num) *api.Num { return &n }

// none are numbers that may not be.
func none() []api.Num {
	return []api.Num{
		neg(),
		pos(0),
		neg(0),
		pos(5, 0),
		neg(5, 0),
		pos(make([]uint32, 12)...),
		pos(make([]uint32, 13)...),
		pos(fill(0, 12, 1)...),
		neg(fill(top, 12, top)...),
		pos(fill(1, 40, 1)...),
	}
}

// value is the number by the library's own means, so that the tests don't lean on what they test.
func value(n api.Num) *big.Int {
	v := new(big.Int)
	for i := len(n.L) - 1; i >= 0; i-- {
		v.Lsh(v, 32).Add(v, big.NewInt(int64(n.L[i])))
	}
	if n.Neg {
		v.Neg(v)
	}
	return v
}

func number(v *big.Int) api.Num {
	out := api.Num{Neg: v.Sign() < 0}
	low, rest := new(big.Int), new(big.Int).Abs(v)
	for rest.Sign() > 0 {
		low.And(rest, big.NewInt(top))
		out.L = append(out.L, uint32(low.Uint64()))
		rest.Rsh(rest, 32)
	}
	return out
}

func same(a, b api.Num) bool { return a.Neg == b.Neg && slices.Equal(a.L, b.L) }

func expect(t *testing.T, what string, got, want api.Num, from ...any) {
	t.Helper()
	if !same(got, want) {
		t.Errorf("%s of %v: %v, not %v", what, from, got, want)
	}
}

// expectOp: want nil is a false.
func expectOp(t *testing.T, op int, a, b api.Num, want *api.Num) {
	t.Helper()
	got, ok := Op(op, a, b)
	if want == nil {
		want = &api.Num{}
		if ok {
			t.Errorf("Op %d of %v and %v is not refused", op, a, b)
		}
	} else if !ok {
		t.Errorf("Op %d of %v and %v is refused", op, a, b)
	}
	if !same(got, *want) {
		t.Errorf("Op %d of %v and %v: %v, not %v", op, a, b, got, *want)
	}
}

// dice throws the same numbers at every run: limbs at the edges are as likely as any others.
type dice uint64

func (d *dice) next() uint32 {
	*d = *d*6364136223846793005 + 1442695040888963407
	return uint32(*d >> 33)
}

func (d *dice) number(limbs int) api.Num {
	l := make([]uint32, int(d.next())%(limbs+1))
	for i := range l {
		l[i] = []uint32{0, 1, top, 1 << 31, d.next()<<8 ^ d.next()}[d.next()%5]
	}
	if len(l) > 0 {
		l[len(l)-1] |= 1 << (d.next() % 32)
	}
	return api.Num{Neg: len(l) > 0 && d.next()%2 == 0, L: l}
}

// P2.1

func TestCheck(t *testing.T) {
	for _, n := range []api.Num{pos(), pos(1), neg(1), pos(0, 1), neg(0, 0, top), pos(fill(0, 11, 1)...), most(), least()} {
		if !Check(n) {
			t.Errorf("%v may be", n)
		}
	}
	for _, n := range none() {
		if Check(n) {
			t.Errorf("%v may not be", n)
		}
	}
}

func TestOfAndInt(t *testing.T) {
	for _, x := range []struct {
		v int
		n api.Num
	}{
		{0, pos()},
		{1, pos(1)},
		{-1, neg(1)},
		{top, pos(top)},
		{-top, neg(top)},
		{1 << 32, pos(0, 1)},
		{-1 << 32, neg(0, 1)},
		{math.MaxInt, pos(top, 1<<31-1)},
		{-math.MaxInt, neg(top, 1<<31-1)},
		{math.MinInt, neg(0, 1<<31)},
	} {
		expect(t, "Of", Of(x.v), x.n, x.v)
		if v, ok := Int(x.n); v != x.v || !ok {
			t.Errorf("Int(%v): %d, %t, not %d", x.n, v, ok, x.v)
		}
	}
}

func TestIntTooGreat(t *testing.T) {
	for _, n := range []api.Num{pos(0, 1<<31), neg(1, 1<<31), pos(top, top), neg(top, top), pos(0, 0, 1), neg(0, 0, 1), pos(5, 0, 1), most(), least()} {
		if v, ok := Int(n); v != 0 || ok {
			t.Errorf("Int(%v): %d, %t", n, v, ok)
		}
	}
}

func TestCmp(t *testing.T) {
	rising := []api.Num{least(), neg(0, 0, 1), neg(top, top), neg(0, 1), neg(top), neg(2), neg(1), pos(), pos(1), pos(2), pos(top), pos(0, 1), pos(1, 1), pos(top, top), pos(0, 0, 1), highest(), most()}
	for i, a := range rising {
		for j, b := range rising {
			want := 0
			if i < j {
				want = -1
			} else if i > j {
				want = 1
			}
			if got := Cmp(a, b); got != want {
				t.Errorf("Cmp(%v, %v): %d, not %d", a, b, got, want)
			}
		}
	}
}

func TestNeg(t *testing.T) {
	expect(t, "Neg", Neg(pos()), pos(), 0)
	expect(t, "Neg", Neg(pos(7)), neg(7), 7)
	expect(t, "Neg", Neg(neg(7, 8)), pos(7, 8))
	expect(t, "Neg", Neg(most()), least(), "the greatest")
	expect(t, "Neg", Neg(least()), most(), "the least")
}

func TestBits(t *testing.T) {
	for _, x := range []struct {
		n    api.Num
		want int
	}{{pos(), 0}, {pos(1), 1}, {neg(1), 1}, {neg(8), 4}, {pos(255), 8}, {pos(top), 32}, {neg(0, 1), 33}, {highest(), 384}, {most(), 384}, {least(), 384}} {
		if got := Bits(x.n); got != x.want {
			t.Errorf("Bits(%v): %d, not %d", x.n, got, x.want)
		}
	}
}

func TestOthersAreTakenAs0(t *testing.T) {
	for _, n := range none() {
		v, ok := Int(n)
		if v != 0 || !ok || Bits(n) != 0 || Text(n) != "0" {
			t.Errorf("%v: Int %d, %t, Bits %d, Text %s", n, v, ok, Bits(n), Text(n))
		}
		if Cmp(n, pos()) != 0 || Cmp(pos(), n) != 0 || Cmp(n, pos(1)) != -1 || Cmp(neg(1), n) != -1 || Cmp(n, pos(5, 0)) != 0 {
			t.Errorf("Cmp of %v", n)
		}
		expect(t, "Neg", Neg(n), pos(), n)
		for op := 0; op <= 11; op++ {
			for _, other := range []api.Num{pos(), pos(6), neg(6)} {
				want, ok := Op(op, pos(), other)
				got, is := Op(op, n, other)
				expect(t, "Op", got, want, op, n, other)
				wantBehind, okBehind := Op(op, other, pos())
				behind, isBehind := Op(op, other, n)
				expect(t, "Op", behind, wantBehind, op, other, n)
				if ok != is || okBehind != isBehind {
					t.Errorf("Op %d of %v, %v", op, n, other)
				}
			}
		}
	}
}

// P2.2

func TestOpOfSmall(t *testing.T) {
	for _, x := range []struct{ op, a, b, want int }{
		{1, 0, 0, 0}, {1, 5, 7, 12}, {1, 5, -7, -2}, {1, -5, 7, 2}, {1, -5, -7, -12}, {1, 7, -5, 2}, {1, 7, -7, 0}, {1, 0, -3, -3},
		{2, 5, 7, -2}, {2, 7, 5, 2}, {2, -5, -5, 0}, {2, 0, 5, -5}, {2, -5, 7, -12}, {2, 5, -7, 12}, {2, 5, 0, 5},
		{3, 3, 5, 15}, {3, -3, 5, -15}, {3, 3, -5, -15}, {3, -3, -5, 15}, {3, 0, -5, 0}, {3, -5, 0, 0},
		{4, 7, 2, 3}, {4, -7, 2, -3}, {4, 7, -2, -3}, {4, -7, -2, 3}, {4, -1, 2, 0}, {4, 0, -2, 0},
		{5, 7, 2, 1}, {5, -7, 2, -1}, {5, 7, -2, 1}, {5, -7, -2, -1}, {5, -6, 2, 0}, {5, -1, 2, -1}, {5, 0, -2, 0},
		{6, 12, 10, 8}, {6, -1, 10, 10}, {6, -4, -6, -8}, {6, -4, 6, 4}, {6, 0, -1, 0}, {6, -1, -1, -1}, {6, -1 << 32, -1, -1 << 32},
		{7, 12, 10, 14}, {7, -4, 1, -3}, {7, -4, -6, -2}, {7, 0, 0, 0}, {7, -1 << 32, top, -1}, {7, 0, -8, -8},
		{8, 12, 10, 6}, {8, -1, 5, -6}, {8, -1, -1, 0}, {8, 5, 0, 5}, {8, 0, -1 << 32, -1 << 32}, {8, -1 << 32, -1, top},
		{9, 3, 4, 48}, {9, -3, 4, -48}, {9, 48, -4, 3}, {9, 49, -4, 3}, {9, -7, -1, -4}, {9, 5, 0, 5}, {9, -5, 0, -5}, {9, 0, 3, 0}, {9, 1, 62, 1 << 62}, {9, -1, 63, math.MinInt},
		{10, 7, 1, 3}, {10, -7, 1, -4}, {10, -8, 1, -4}, {10, -1, 1, -1}, {10, 3, -2, 12}, {10, -3, -2, -12}, {10, 5, 0, 5}, {10, -5, 0, -5}, {10, 0, 5, 0}, {10, math.MinInt, 63, -1}, {10, math.MaxInt, 63, 0},
	} {
		want := Of(x.want)
		expectOp(t, x.op, Of(x.a), Of(x.b), &want)
	}
}

func TestOpThatIsNone(t *testing.T) {
	for _, op := range []int{0, -1, 11, 12, 1 << 32, 1<<32 + 1, math.MaxInt, math.MinInt} {
		expectOp(t, op, Of(6), Of(3), nil)
		expectOp(t, op, pos(), pos(), nil)
	}
}

func TestOpBy0(t *testing.T) {
	for _, a := range []api.Num{pos(), pos(1), neg(7), most(), least()} {
		expectOp(t, 4, a, pos(), nil)
		expectOp(t, 5, a, pos(), nil)
	}
}

func TestOpAtTheRoomsEnd(t *testing.T) {
	one, minusOne, all, low := pos(1), neg(1), most(), least()
	even := neg(highest().L...)
	for _, x := range []struct {
		op   int
		a, b api.Num
		want *api.Num
	}{
		{1, all, one, nil},
		{1, all, pos(), &all},
		{1, low, minusOne, nil},
		{1, low, all, &api.Num{}},
		{1, highest(), highest(), nil},
		{2, low, one, nil},
		{2, all, minusOne, nil},
		{2, pos(), all, &low},
		{2, all, low, nil},
		{3, all, pos(2), nil},
		{3, all, neg(1), &low},
		{3, pos(fill(0, 6, 1)...), neg(fill(0, 5, 1<<31)...), &even},
		{3, pos(fill(0, 6, 1)...), pos(fill(0, 6, 1)...), nil},
		{3, all, all, nil},
		{4, low, minusOne, &all},
		{4, low, one, &low},
		// The bits of both below 0 leave a 1 above the greatest number's and 0s below.
		{6, low, neg(2), nil},
		{6, low, even, nil},
		{6, even, even, &even},
		{6, low, low, &low},
		{6, low, all, &one},
		{7, low, neg(2), &minusOne},
		{7, all, even, &minusOne},
		{8, low, all, ref(number(big.NewInt(-2)))},
		{8, low, minusOne, ref(number(new(big.Int).Sub(value(all), big.NewInt(1))))},
		{8, low, one, nil},
	} {
		expectOp(t, x.op, x.a, x.b, x.want)
	}
}

func TestFarShifts(t *testing.T) {
	one, minusOne, high, deep := pos(1), neg(1), highest(), neg(highest().L...)
	for _, x := range []struct {
		a, by api.Num
		want  *api.Num
	}{
		{one, Of(383), &high},
		{minusOne, Of(383), &deep},
		{one, Of(384), nil},
		{minusOne, Of(384), nil},
		{pos(2), Of(383), nil},
		{one, Of(4096), nil},
		{one, Of(4097), nil},
		{one, Of(9999), nil},
		{one, Of(10000), nil},
		{one, Of(10001), nil},
		{minusOne, Of(10001), nil},
		{one, Of(1 << 32), nil},
		{one, Of(math.MaxInt), nil},
		{one, pos(0, 0, 1), nil},
		{neg(3), most(), nil},
		{pos(), Of(383), &api.Num{}},
		{pos(), Of(10000), &api.Num{}},
		{pos(), Of(10001), &api.Num{}},
		{pos(), most(), &api.Num{}},
		{pos(), least(), &api.Num{}},
		{pos(), Of(math.MinInt), &api.Num{}},
		{most(), Of(-383), &one},
		{most(), Of(-384), &api.Num{}},
		{least(), Of(-383), ref(number(big.NewInt(-2)))},
		{deep, Of(-383), &minusOne},
		{least(), Of(-384), &minusOne},
		{most(), Of(-10000), &api.Num{}},
		{most(), Of(-10001), &api.Num{}},
		{least(), Of(-10000), &minusOne},
		{least(), Of(-10001), &minusOne},
		{most(), Of(-1 << 32), &api.Num{}},
		{minusOne, Of(-1 << 32), &minusOne},
		{one, Of(math.MinInt), &api.Num{}},
		{minusOne, Of(math.MinInt), &minusOne},
		{most(), least(), &api.Num{}},
		{least(), least(), &minusOne},
		{minusOne, neg(0, 0, 1), &minusOne},
	} {
		expectOp(t, 9, x.a, x.by, x.want)
		expectOp(t, 10, x.a, number(new(big.Int).Neg(value(x.by))), x.want)
	}
}

// library is what Op does by the library's own means; nil is a false.
func library(op int, a, b *big.Int) *api.Num {
	out := new(big.Int)
	switch op {
	case 1:
		out.Add(a, b)
	case 2:
		out.Sub(a, b)
	case 3:
		out.Mul(a, b)
	case 4, 5:
		if b.Sign() == 0 {
			return nil
		}
		if op == 4 {
			out.Quo(a, b)
		} else {
			out.Rem(a, b)
		}
	case 6:
		out.And(a, b)
	case 7:
		out.Or(a, b)
	case 8:
		out.Xor(a, b)
	case 9:
		if b.Sign() < 0 {
			return library(10, a, new(big.Int).Neg(b))
		}
		out.Lsh(a, uint(b.Uint64()))
	case 10:
		if b.Sign() < 0 {
			return library(9, a, new(big.Int).Neg(b))
		}
		out.Rsh(a, uint(b.Uint64()))
	}
	if out.BitLen() > 384 {
		return nil
	}
	return ref(number(out))
}

func TestOpAgainstLibrary(t *testing.T) {
	d := dice(1)
	for range 20000 {
		a, b := d.number(12), d.number(12)
		for op := 1; op <= 8; op++ {
			expectOp(t, op, a, b, library(op, value(a), value(b)))
		}
		by := Of(int(d.next()%1000) - 500)
		expectOp(t, 9, a, by, library(9, value(a), value(by)))
		expectOp(t, 10, a, by, library(10, value(a), value(by)))
		if Cmp(a, b) != value(a).Cmp(value(b)) || Bits(a) != value(a).BitLen() {
			t.Errorf("Cmp, Bits of %v, %v", a, b)
		}
		if t.Failed() {
			return
		}
	}
}

// P2.3

func TestTexts(t *testing.T) {
	for _, x := range []struct {
		s string
		n api.Num
	}{
		{"0", pos()},
		{"7", pos(7)},
		{"-1", neg(1)},
		{"10", pos(10)},
		{"-100", neg(100)},
		{"999999999", pos(999999999)},
		{"1000000000", pos(1000000000)},
		{"1000000001", pos(1000000001)},
		{"-1000000010", neg(1000000010)},
		{"4294967295", pos(top)},
		{"4294967296", pos(0, 1)},
		{"9223372036854775807", Of(math.MaxInt)},
		{"-9223372036854775808", Of(math.MinInt)},
		{"1000000000000000000", Of(1000000000000000000)},
		{"18446744073709551616", pos(0, 0, 1)},
		{value(most()).String(), most()},
		{value(least()).String(), least()},
	} {
		if got := Text(x.n); got != x.s {
			t.Errorf("Text(%v): %q, not %q", x.n, got, x.s)
		}
		got, ok := Parse(x.s)
		expect(t, "Parse", got, x.n, x.s)
		if !ok {
			t.Errorf("%q is refused", x.s)
		}
	}
}

func TestTextsThatAreNone(t *testing.T) {
	tooGreat := new(big.Int).Lsh(big.NewInt(1), 384).String()
	for _, s := range []string{
		"", "-", "+", "+1", "--1", "-+1", "1-", "1-1", "-0", "00", "01", "-01", "-00", "0-",
		" 1", "1 ", "1\n", "1_000", "0x1", "1e3", "1.0", "a", "/", ":", "1/", "1:", "\x00", "1\x00", "\xff", "é", "٣", "１",
		"3\xc3\xc3", "0" + strings.Repeat("9", 50), strings.Repeat("0", 200), strings.Repeat("0", 201),
		tooGreat, "-" + tooGreat, strings.Repeat("9", 117), strings.Repeat("9", 199), strings.Repeat("9", 200), "-" + strings.Repeat("9", 199), strings.Repeat("9", 201),
		strings.Repeat("1", 1<<16),
	} {
		got, ok := Parse(s)
		expect(t, "Parse", got, pos(), s)
		if ok {
			t.Errorf("%q is taken", s)
		}
	}
}

func TestTextsAgainstLibrary(t *testing.T) {
	d := dice(2)
	for i := range 20000 {
		n := d.number(1 + i%12)
		s := value(n).String()
		got, ok := Parse(s)
		if Text(n) != s || !ok || !same(got, n) {
			t.Fatalf("%s: Text %s, Parse %v, %t", s, Text(n), got, ok)
		}
	}
}

// Each text of three bytes out of those that stand in and beside numbers is a Text, or refused.
func TestShortTexts(t *testing.T) {
	around := "-+/0123459:a \x00\xff"
	for i := range len(around) * len(around) * len(around) {
		s := string([]byte{around[i%len(around)], around[i/len(around)%len(around)], around[i/len(around)/len(around)]})
		v, is := new(big.Int).SetString(s, 10)
		is = is && v.String() == s
		if n, ok := Parse(s); ok != is || ok && value(n).Cmp(v) != 0 {
			t.Errorf("Parse(%q): %v, %t", s, n, ok)
		}
	}
}

// R3

// roomy is a number with spare room that is filled with marks.
func roomy(n api.Num) api.Num {
	return api.Num{Neg: n.Neg, L: append(slices.Clone(n.L), 0xabcd, 0xabcd, 0xabcd)[:len(n.L)]}
}

func spoil(n api.Num) {
	l := n.L[:cap(n.L)]
	for i := range l {
		l[i] = ^l[i] + 1
	}
}

// calls are all the calls that answer numbers.
func calls(a, b api.Num) []api.Num {
	out := []api.Num{Neg(a), Neg(b)}
	for op := 1; op <= 10; op++ {
		n, _ := Op(op, a, b)
		out = append(out, n)
	}
	return out
}

func TestListsStayAsTheyWere(t *testing.T) {
	numbers := append(none(), pos(), pos(1), neg(1), pos(2, 3), neg(4, 5, 6), most(), least())
	for _, x := range numbers {
		for _, y := range numbers {
			a, b := roomy(x), roomy(y)
			wholeA, wholeB := slices.Clone(a.L[:cap(a.L)]), slices.Clone(b.L[:cap(b.L)])
			var kept []api.Num
			first := calls(a, b)
			for _, n := range first {
				kept = append(kept, api.Num{Neg: n.Neg, L: slices.Clone(n.L)})
			}
			for i, n := range first {
				expect(t, "an answer shares memory with another: that", n, kept[i], i, x, y)
				spoil(n)
			}
			Check(a)
			Int(a)
			Cmp(a, b)
			Text(a)
			Bits(a)
			if !slices.Equal(a.L[:cap(a.L)], wholeA) || !slices.Equal(b.L[:cap(b.L)], wholeB) {
				t.Errorf("%v, %v were changed, or are shared by an answer", x, y)
			}
			again := calls(a, b)
			spoil(a)
			spoil(b)
			for i, n := range again {
				expect(t, "what was handed in is kept: the answer", n, kept[i], i, x, y)
			}
		}
	}
}

func TestAnswersAreNewMemory(t *testing.T) {
	spoil(Of(7))
	expect(t, "Of", Of(7), pos(7), 7)
	n, _ := Parse("7")
	spoil(n)
	n, _ = Parse("7")
	expect(t, "Parse", n, pos(7), "7")
	a := pos(top, 7, 1<<31)
	sum, _ := Op(1, a, a)
	expect(t, "the sum", sum, pos(top-1, 15, 0, 1), a, a)
	diff, _ := Op(2, a, a)
	expect(t, "the difference", diff, pos(), a, a)
	expect(t, "the number", a, pos(top, 7, 1<<31))
}

// R1

func TestLongListsEnd(t *testing.T) {
	long := pos(fill(top, 1<<20, top)...)
	if Check(long) || Text(long) != "0" || Cmp(long, pos()) != 0 {
		t.Error("a long list is taken as 0")
	}
	if n, ok := Parse(strings.Repeat("9", 1<<24)); ok || len(n.L) != 0 {
		t.Error("a long text is refused")
	}
}
