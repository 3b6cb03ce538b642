package term

import (
	"cmp"
	"fmt"
	"math"
	"reflect"
	"runtime/debug"
	"slices"
	"strings"
	"testing"

	"relict/api"
	"relict/num"
)

func in(v int) api.Term { return api.Term{Kind: api.Int, I: num.Of(v)} }

func raw(neg bool, l ...uint32) api.Term {
	return api.Term{Kind: api.Int, I: api.Num{Neg: neg, L: l}}
}

func atom(s string) api.Term { return api.Term{Kind: api.Atom, S: s} }

func empty() api.Term { return api.Term{Kind: api.Nil} }

// cons may be of more or fewer than two.
func cons(k ...api.Term) api.Term { return api.Term{Kind: api.Cons, K: k} }

func tuple(k ...api.Term) api.Term { return api.Term{Kind: api.Tuple, K: k} }

func bin(s string) api.Term { return api.Term{Kind: api.Bin, S: s} }

func fun(n int, k ...api.Term) api.Term { return api.Term{Kind: api.Fun, N: n, K: k} }

func match(s string, n int) api.Term { return api.Term{Kind: api.Match, S: s, N: n} }

func catch(n int) api.Term { return api.Term{Kind: api.Catch, N: n} }

func other(kind int) api.Term { return api.Term{Kind: kind} }

func times(n int, t api.Term) []api.Term { return slices.Repeat([]api.Term{t}, n) }

// within is a term within so many tuples.
func within(n int, t api.Term) api.Term {
	for range n {
		t = tuple(t)
	}
	return t
}

// doubled is a term whose nodes are twice as many, and one more, at each step, though it stands in memory but once.
func doubled(n int, t api.Term) api.Term {
	for range n {
		t = tuple(t, t)
	}
	return t
}

// own is a term that has itself in it.
func own(kind int) api.Term {
	k := make([]api.Term, 2)
	k[0], k[1] = empty(), api.Term{Kind: kind, K: k}
	return k[1]
}

// others are kinds that are none.
func others() []int { return []int{0, -1, 10, 11, math.MaxInt, math.MinInt, 1<<32 + api.Nil} }

// dice throws the same terms at every run, of all kinds, some of them such as may not be.
type dice uint64

func (d *dice) below(n int) int {
	*d = *d*6364136223846793005 + 1442695040888963407
	return int(uint64(*d)>>33) % n
}

func (d *dice) number() api.Num {
	l := make([]uint32, d.below(4))
	for i := range l {
		l[i] = []uint32{0, 1, 7, 1 << 27, math.MaxUint32}[d.below(5)]
	}
	return api.Num{Neg: d.below(2) == 0, L: l}
}

func (d *dice) term(deep int) api.Term {
	t := api.Term{Kind: d.below(11), S: []string{"", "a", "ab", "b", "12345678", "123456789"}[d.below(6)], N: d.below(3) - 1}
	t.I = d.number()
	if deep > 0 {
		for range []int{0, 1, 2, 2, 2, 3}[d.below(6)] {
			t.K = append(t.K, d.term(deep-1))
		}
	}
	return t
}

// P3.1

func expectCheck(t *testing.T, x api.Term, want bool) {
	t.Helper()
	if Check(x) != want {
		t.Errorf("Check is not %t of %.300s", want, fmt.Sprint(x))
	}
}

func TestCheckOfInt(t *testing.T) {
	limbs := slices.Repeat([]uint32{7}, api.MaxLimbs+1)
	for _, x := range []api.Term{in(0), in(1), in(-1), in(math.MaxInt), in(math.MinInt), raw(true, limbs[:api.MaxLimbs]...), raw(false, 0, 1)} {
		expectCheck(t, x, true)
	}
	for _, x := range []api.Term{raw(true), raw(false, 0), raw(true, 0), raw(false, 5, 0), raw(false, limbs...)} {
		expectCheck(t, x, false)
	}
}

func TestCheckOfAtom(t *testing.T) {
	long := strings.Repeat("x", api.MaxAtom)
	for _, s := range []string{"a", "!", "~", "!~", "'", "{}", long} {
		expectCheck(t, atom(s), true)
	}
	for _, s := range []string{"", long + "x", "é", strings.Repeat("x", 1<<16)} {
		expectCheck(t, atom(s), false)
	}
	for c := range 256 {
		is := c >= 33 && c <= 126
		expectCheck(t, atom(string([]byte{byte(c)})), is)
		expectCheck(t, atom(string([]byte{'a', byte(c)})), is)
		expectCheck(t, atom(string([]byte{byte(c), 'a'})), is)
		expectCheck(t, atom(long[1:]+string([]byte{byte(c)})), is)
	}
}

func TestCheckOfBin(t *testing.T) {
	for _, s := range []string{"", "\x00", "\xff\x00", strings.Repeat("\x80", api.MaxBin)} {
		expectCheck(t, bin(s), true)
	}
	expectCheck(t, bin(strings.Repeat("\x00", api.MaxBin+1)), false)
}

func TestCheckOfKinds(t *testing.T) {
	for _, kind := range others() {
		expectCheck(t, other(kind), false)
		expectCheck(t, tuple(other(kind)), false)
	}
	for _, x := range []api.Term{fun(0), fun(1, in(1)), match("", 0), match("a", 1), catch(0), catch(3)} {
		expectCheck(t, x, false)
		expectCheck(t, tuple(x), false)
		expectCheck(t, cons(x, empty()), false)
		expectCheck(t, cons(empty(), x), false)
	}
	expectCheck(t, empty(), true)
}

func TestCheckOfParts(t *testing.T) {
	for _, x := range []api.Term{cons(in(1), in(2)), cons(in(1), cons(in(2), empty())), tuple(), tuple(atom("a")), tuple(times(api.MaxTuple, bin("a"))...), cons(tuple(), tuple())} {
		expectCheck(t, x, true)
	}
	for _, x := range []api.Term{
		cons(), cons(in(1)), cons(in(1), empty(), empty()), cons(atom(""), empty()), cons(empty(), atom("")),
		tuple(times(api.MaxTuple+1, empty())...), tuple(empty(), atom(" ")), tuple(cons()), cons(empty(), cons(in(1))),
	} {
		expectCheck(t, x, false)
	}
}

func TestCheckOfOtherFields(t *testing.T) {
	kinds := map[int]api.Term{api.Int: in(5), api.Atom: atom("a"), api.Nil: empty(), api.Cons: cons(empty(), empty()), api.Tuple: tuple(empty()), api.Bin: bin("a")}
	for kind, x := range kinds {
		expectCheck(t, x, true)
		withNone := x
		if kind != api.Int {
			withNone.I.L = []uint32{}
			for _, n := range []api.Num{num.Of(1), {Neg: true}, {L: []uint32{0}}} {
				y := x
				y.I = n
				expectCheck(t, y, false)
			}
		}
		if kind != api.Atom && kind != api.Bin {
			y := x
			y.S = "a"
			expectCheck(t, y, false)
		}
		if kind != api.Cons && kind != api.Tuple {
			withNone.K = []api.Term{}
			y := x
			y.K = []api.Term{empty()}
			expectCheck(t, y, false)
			y.K = []api.Term{empty(), empty()}
			expectCheck(t, y, false)
		}
		for _, n := range []int{1, -1, math.MinInt} {
			y := x
			y.N = n
			expectCheck(t, y, false)
			expectCheck(t, tuple(y), false)
			expectCheck(t, cons(empty(), y), false)
		}
		expectCheck(t, withNone, true)
	}
}

func TestCheckOfDepth(t *testing.T) {
	for _, x := range []api.Term{
		within(59, empty()), within(58, tuple(in(1), atom("a"))), within(59, tuple()),
		cons(within(58, empty()), empty()), cons(empty(), within(59, empty())),
		within(58, cons(in(1), cons(in(2), empty()))), within(59, bin("")),
		List(times(900, in(1)), within(59, empty())), cons(cons(within(57, empty()), empty()), empty()),
	} {
		expectCheck(t, x, true)
	}
	for _, x := range []api.Term{
		within(60, empty()), within(60, tuple()), within(59, cons(in(1), empty())), cons(within(59, empty()), empty()), cons(empty(), within(60, empty())),
		List(times(900, in(1)), within(60, empty())), List(times(900, in(1)), cons(within(59, empty()), empty())), cons(cons(within(58, empty()), empty()), empty()), within(1<<20, empty()),
	} {
		expectCheck(t, x, false)
	}
}

func TestCheckOfNodes(t *testing.T) {
	row := tuple(times(39, in(1))...)
	full := tuple(times(40, row)...)
	for _, x := range []struct {
		t     api.Term
		nodes int
	}{
		{List(times(999, in(1)), empty()), 1999},
		{List(times(998, in(1)), tuple(empty(), empty(), empty())), 2000},
		{List(times(999, in(1)), tuple(empty())), 2000},
		{List(times(1000, in(1)), empty()), 2001},
		{List(times(999, in(1)), tuple(empty(), empty())), 2001},
		{List(times(998, in(1)), cons(tuple(in(1)), empty())), 2000},
		{List(times(998, in(1)), cons(tuple(in(1), in(2)), empty())), 2001},
		{tuple(full, List(times(198, in(1)), tuple())), 1999},
		{tuple(full, List(times(198, in(1)), tuple(in(1)))), 2000},
		{tuple(full, List(times(199, in(1)), empty())), 2001},
		{tuple(List(times(198, in(1)), tuple(in(1))), full), 2000},
		{tuple(List(times(199, in(1)), empty()), full), 2001},
		{List(times(1<<20, in(1)), empty()), 1<<21 + 1},
		{doubled(9, tuple(empty())), 1535},
		{doubled(10, empty()), 2047},
	} {
		if Nodes(x.t) != x.nodes {
			t.Fatalf("%d nodes, not %d", Nodes(x.t), x.nodes)
		}
		expectCheck(t, x.t, x.nodes <= api.MaxTerm)
	}
}

func TestCheckEnds(t *testing.T) {
	if Check(doubled(50, empty())) || Check(own(api.Cons)) || Check(own(api.Tuple)) || Check(cons(own(api.Tuple), empty())) {
		t.Error("terms without an end may not be")
	}
}

// P3.2

// slowSame is Same by its words, with calls that are nested.
func slowSame(a, b api.Term) bool {
	if a.Kind != b.Kind {
		return false
	}
	number := a.I.Neg == b.I.Neg && slices.Equal(a.I.L, b.I.L)
	made := slices.EqualFunc(a.K, b.K, slowSame)
	switch a.Kind {
	case api.Int:
		return number
	case api.Atom, api.Bin:
		return a.S == b.S
	case api.Fun:
		return a.N == b.N && made
	case api.Match:
		return a.S == b.S && a.N == b.N
	case api.Catch:
		return a.N == b.N
	case api.Cons, api.Tuple:
		return made
	}
	return true
}

func expectSame(t *testing.T, a, b api.Term, want bool) {
	t.Helper()
	if Same(a, b) != want || Same(b, a) != want || !Same(a, a) || !Same(b, b) {
		t.Errorf("Same is not %t of %.300s and %.300s", want, fmt.Sprint(a), fmt.Sprint(b))
	}
}

func TestSame(t *testing.T) {
	for _, x := range []struct {
		a, b api.Term
		want bool
	}{
		{in(5), in(5), true}, {in(5), in(-5), false}, {in(5), in(6), false}, {in(5), raw(false, 5, 0), false}, {raw(false, 5, 0), raw(false, 5, 0), true},
		{in(0), raw(true), false}, {in(0), raw(false, 0), false}, {in(0), raw(false, []uint32{}...), true}, {raw(false, 1, 2), raw(false, 2, 1), false},
		{atom("a"), atom("a"), true}, {atom("a"), atom("b"), false}, {atom("a"), atom("ab"), false}, {atom("a"), bin("a"), false}, {bin(""), empty(), false},
		{bin("a\x00"), bin("a\x00"), true}, {bin("a\x00"), bin("a"), false},
		{fun(1), fun(1), true}, {fun(1), fun(2), false}, {fun(1, in(1)), fun(1, in(1)), true}, {fun(1, in(1)), fun(1, in(2)), false}, {fun(1, in(1)), fun(1), false},
		{match("a", 1), match("a", 1), true}, {match("a", 1), match("a", 0), false}, {match("a", 1), match("b", 1), false}, {match("a", 1), bin("a"), false},
		{catch(1), catch(1), true}, {catch(1), catch(2), false},
		{tuple(), tuple(), true}, {tuple(), empty(), false}, {tuple(in(1)), tuple(in(1), in(1)), false}, {tuple(in(1), in(2)), tuple(in(1), in(3)), false}, {tuple(tuple(in(1)), in(2)), tuple(tuple(in(1)), in(2)), true}, {tuple(tuple(in(1)), in(2)), tuple(tuple(in(3)), in(2)), false},
		{tuple(tuple(), tuple(in(1))), tuple(tuple(in(1)), tuple()), false}, {tuple(in(1), in(2)), cons(in(1), in(2)), false},
		{cons(in(1), empty()), cons(in(1), empty()), true}, {cons(in(1), empty()), cons(in(1)), false}, {cons(in(1), in(2)), cons(in(1), in(2), in(3)), false}, {cons(in(1), in(2), in(3)), cons(in(1), in(2), in(4)), false}, {cons(), cons(), true},
		{empty(), empty(), true}, {other(0), other(0), true}, {other(10), other(10), true}, {other(0), other(10), false}, {other(-1), other(10), false},
		{tuple(other(10)), tuple(other(11)), false},
	} {
		expectSame(t, x.a, x.b, x.want)
		expectSame(t, tuple(in(1), x.a), tuple(in(1), x.b), x.want)
		expectSame(t, cons(x.a, empty()), cons(x.b, empty()), x.want)
		expectSame(t, fun(3, x.a, in(1)), fun(3, x.b, in(1)), x.want)
	}
}

// cluttered is a term with marks in each field that plays no part.
func cluttered(x api.Term, n int) api.Term {
	kind := x.Kind
	if kind != api.Int {
		x.I = api.Num{Neg: n%2 == 0, L: []uint32{uint32(n)}}
	}
	if kind != api.Atom && kind != api.Bin && kind != api.Match {
		x.S = strings.Repeat("s", n)
	}
	if kind != api.Fun && kind != api.Match && kind != api.Catch {
		x.N = n
	}
	if kind != api.Fun && kind != api.Cons && kind != api.Tuple {
		x.K = times(n, other(n))
	}
	return x
}

func TestWhatPlaysNoPart(t *testing.T) {
	for _, x := range []api.Term{in(5), atom("a"), empty(), cons(in(1), empty()), tuple(in(1)), bin("a"), fun(2, in(1)), match("a", 1), catch(4), other(0), other(10)} {
		a, b := cluttered(x, 1), cluttered(x, 2)
		expectSame(t, a, b, true)
		expectSame(t, a, x, true)
		if Cmp(a, b) != 0 || Cmp(a, x) != 0 || Text(a) != Text(x) || Text(b) != Text(x) {
			t.Errorf("%v: Cmp %d, %d, Text %s, %s", x, Cmp(a, b), Cmp(a, x), Text(a), Text(b))
		}
	}
}

// P3.3

// slowCmp is Cmp by its words, with calls that are nested.
func slowCmp(a, b api.Term) int {
	rank := func(kind int) int {
		if kind < api.Int || kind > api.Catch {
			return 10
		}
		return []int{api.Int: 1, api.Atom: 2, api.Fun: 3, api.Tuple: 4, api.Nil: 5, api.Cons: 6, api.Bin: 7, api.Match: 8, api.Catch: 9}[kind]
	}
	asTuples := func(a, b []api.Term) int {
		return cmp.Or(cmp.Compare(len(a), len(b)), slices.CompareFunc(a, b, slowCmp))
	}
	two := func(t api.Term) []api.Term { return append(slices.Clone(t.K), empty(), empty())[:2] }
	if c := cmp.Compare(rank(a.Kind), rank(b.Kind)); c != 0 {
		return c
	}
	switch a.Kind {
	case api.Int:
		return num.Cmp(a.I, b.I)
	case api.Atom, api.Bin:
		return strings.Compare(a.S, b.S)
	case api.Fun:
		return cmp.Or(cmp.Compare(a.N, b.N), asTuples(a.K, b.K))
	case api.Tuple:
		return asTuples(a.K, b.K)
	case api.Cons:
		return slices.CompareFunc(two(a), two(b), slowCmp)
	case api.Match:
		return cmp.Or(strings.Compare(a.S, b.S), cmp.Compare(a.N, b.N))
	case api.Catch:
		return cmp.Compare(a.N, b.N)
	}
	return 0
}

func rising() []api.Term {
	return []api.Term{
		raw(true, 0, 0, 1), in(math.MinInt), in(-5), in(-1), in(0), in(3), in(1 << 40), raw(false, 0, 0, 1),
		atom(""), atom("Z"), atom("a"), atom("a\x00"), atom("ab"), atom("b"), atom("\xff"),
		fun(math.MinInt), fun(0), fun(0, bin("")), fun(1), fun(1, in(1)), fun(1, in(2)), fun(1, in(1), in(1)), fun(2),
		tuple(), tuple(in(1)), tuple(bin("z")), tuple(in(1), in(9)), tuple(in(2), in(1)), tuple(tuple(), in(5)), tuple(tuple(in(1)), in(0)), tuple(tuple(in(2)), in(0)), tuple(in(0), in(0), in(0)),
		empty(),
		cons(in(1), atom("a")), cons(in(1), empty()), cons(in(1), cons(in(0), empty())), cons(in(1), bin("")), cons(in(2), in(0)), cons(cons(in(1), in(9)), in(0)), cons(cons(in(2), in(0)), in(0)),
		bin(""), bin("\x00"), bin("a"), bin("aa"), bin("b"), bin("\xff"),
		match("", 9), match("a", -1), match("a", 0), match("a", 1), match("b", 0),
		catch(math.MinInt), catch(-1), catch(0), catch(1), catch(math.MaxInt),
		other(10),
	}
}

func TestCmp(t *testing.T) {
	l := rising()
	for i, a := range l {
		for j, b := range l {
			want := cmp.Compare(i, j)
			for _, x := range [][2]api.Term{{a, b}, {tuple(in(1), a, in(5)), tuple(in(1), b, in(4))}, {cons(a, in(5)), cons(b, in(4))}, {cons(in(0), a), cons(in(0), b)}, {fun(2, a, in(5)), fun(2, b, in(4))}} {
				want := want
				if want == 0 && len(x[0].K) > 0 {
					want = slowCmp(x[0], x[1])
				}
				if got := Cmp(x[0], x[1]); got != want {
					t.Errorf("Cmp of %v and %v: %d, not %d", x[0], x[1], got, want)
				}
			}
		}
	}
}

func TestCmpOfSuchAsMayNotBe(t *testing.T) {
	for _, x := range []struct {
		a, b api.Term
		want int
	}{
		{cons(), cons(empty(), empty()), 0},
		{cons(in(1)), cons(in(1), empty()), 0},
		{cons(in(1)), cons(in(1), in(1)), 1},
		{cons(in(1)), cons(in(1), bin("")), -1},
		{cons(), cons(in(1)), 1},
		{cons(), cons(bin("")), -1},
		{cons(in(1), in(2), in(3)), cons(in(1), in(2)), 0},
		{cons(in(1), in(2), in(3)), cons(in(1), in(2), in(4)), 0},
		{cons(in(1), in(3), in(3)), cons(in(1), in(2), in(4)), 1},
		{raw(false, 5, 0), in(0), 0},
		{raw(true), in(0), 0},
		{raw(true, 5, 0), in(-1), 1},
		{other(0), other(10), 0},
		{other(-7), catch(math.MaxInt), 1},
		{tuple(other(0), in(1)), tuple(other(10), in(2)), -1},
		{other(math.MinInt), in(0), 1},
	} {
		if Cmp(x.a, x.b) != x.want || Cmp(x.b, x.a) != -x.want {
			t.Errorf("Cmp of %v and %v: %d, %d, not %d", x.a, x.b, Cmp(x.a, x.b), Cmp(x.b, x.a), x.want)
		}
	}
}

// P3.4

// slowSizes are Nodes and Words by their words, with calls that are nested.
func slowSizes(x api.Term) (nodes, words int) {
	nodes = 1
	switch x.Kind {
	case api.Int:
		if !Small(x.I) {
			words = 1 + len(x.I.L)
		}
	case api.Cons:
		words = 2
	case api.Tuple:
		words = 1 + len(x.K)
	case api.Bin:
		words = 2 + int(math.Ceil(float64(len(x.S))/8))
	case api.Fun:
		words = 2 + len(x.K)
	case api.Match:
		words = 5 + int(math.Ceil(float64(len(x.S))/8))
	}
	for _, k := range x.K {
		n, w := slowSizes(k)
		nodes, words = nodes+n, words+w
	}
	return nodes, words
}

func TestSizes(t *testing.T) {
	for _, x := range []struct {
		t            api.Term
		nodes, words int
	}{
		{in(0), 1, 0}, {in(1<<59 - 1), 1, 0}, {in(-1 << 59), 1, 0}, {in(1 << 59), 1, 3}, {in(-1<<59 - 1), 1, 3}, {in(math.MinInt), 1, 3}, {raw(false, 0, 0, 1), 1, 4},
		{raw(true, slices.Repeat([]uint32{9}, 12)...), 1, 13}, {raw(false, slices.Repeat([]uint32{9}, 13)...), 1, 0}, {raw(false, 1, 2, 3, 0), 1, 0},
		{atom("abc"), 1, 0}, {empty(), 1, 0}, {catch(7), 1, 0}, {other(0), 1, 0}, {other(10), 1, 0},
		{cons(in(1), empty()), 3, 2}, {cons(in(1), cons(in(2), empty())), 5, 4}, {cons(), 1, 2}, {cons(in(1)), 2, 2}, {cons(tuple(), tuple(), tuple()), 4, 5},
		{tuple(), 1, 1}, {tuple(in(1)), 2, 2}, {tuple(in(1), tuple(in(2))), 4, 5}, {tuple(in(1<<60), bin("a")), 3, 9},
		{bin(""), 1, 2}, {bin("a"), 1, 3}, {bin("1234567"), 1, 3}, {bin("12345678"), 1, 3}, {bin("123456789"), 1, 4}, {bin(strings.Repeat("a", 400)), 1, 52}, {bin(strings.Repeat("a", 801)), 1, 103},
		{fun(0), 1, 2}, {fun(3, in(1), bin("a")), 3, 7}, {match("", 0), 1, 5}, {match("a", 1), 1, 6}, {match("123456789", 1), 1, 7},
		{api.Term{Kind: api.Atom, K: []api.Term{tuple(), bin("")}}, 3, 3}, {api.Term{Kind: 10, K: []api.Term{cons()}}, 2, 2}, {api.Term{Kind: api.Match, K: []api.Term{tuple()}}, 2, 6},
		{doubled(20, empty()), 1<<21 - 1, 3 * (1<<20 - 1)},
	} {
		if Nodes(x.t) != x.nodes || Words(x.t) != x.words {
			t.Errorf("%.300s: %d nodes, %d words, not %d, %d", Text(x.t), Nodes(x.t), Words(x.t), x.nodes, x.words)
		}
	}
}

func TestSmall(t *testing.T) {
	for _, v := range []int{0, 1, -1, 1<<59 - 1, -1 << 59, 1 << 32, -1 << 32} {
		if !Small(num.Of(v)) {
			t.Errorf("%d is small", v)
		}
	}
	for _, n := range []api.Num{num.Of(1 << 59), num.Of(-1<<59 - 1), num.Of(math.MaxInt), num.Of(math.MinInt), {L: []uint32{0, 0, 1}}, {Neg: true, L: []uint32{0, 0, 1}}, {L: []uint32{0, 1 << 31}}} {
		if Small(n) {
			t.Errorf("%v is not small", n)
		}
	}
	for _, n := range []api.Num{{Neg: true}, {L: []uint32{0, 0}}, {L: []uint32{1, 2, 3, 0}}, {L: slices.Repeat([]uint32{1}, 13)}} {
		if !Small(n) {
			t.Errorf("%v is taken as 0", n)
		}
	}
}

// P3.5

func TestList(t *testing.T) {
	for _, x := range []struct {
		got, want api.Term
	}{
		{List(nil, empty()), empty()},
		{List([]api.Term{}, in(7)), in(7)},
		{List(nil, match("a", 1)), match("a", 1)},
		{List([]api.Term{in(1)}, empty()), cons(in(1), empty())},
		{List([]api.Term{in(1), atom("b"), tuple()}, in(7)), cons(in(1), cons(atom("b"), cons(tuple(), in(7))))},
		{List([]api.Term{other(0)}, cons(in(1))), cons(other(0), cons(in(1)))},
	} {
		if !reflect.DeepEqual(x.got, x.want) {
			t.Errorf("%v, not %v", x.got, x.want)
		}
	}
}

func TestItems(t *testing.T) {
	for _, l := range [][]api.Term{nil, {in(1)}, {in(1), atom("b"), empty(), cons(), other(0), match("a", 1)}, times(api.MaxTerm, in(1))} {
		got, ok := Items(List(l, empty()))
		if !ok || !slices.EqualFunc(got, l, Same) {
			t.Errorf("%d items: %d, %t", len(l), len(got), ok)
		}
	}
	for i, x := range []api.Term{
		in(1), atom("[]"), bin(""), tuple(in(1), empty()), other(0), other(10), fun(0), match("", 0), catch(0),
		List([]api.Term{in(1)}, in(1)), List([]api.Term{in(1), in(2)}, tuple()), cons(), cons(in(1)), cons(in(1), empty(), empty()), List([]api.Term{in(1)}, cons(in(1))), cons(in(1), cons(), empty()),
		List(times(api.MaxTerm, in(1)), in(1)), List(times(api.MaxTerm, in(1)), cons(in(1))), List(times(api.MaxTerm+1, in(1)), empty()), List(times(1<<20, in(1)), empty()), own(api.Cons),
	} {
		if got, ok := Items(x); got != nil || ok {
			t.Errorf("%d: %d items, %t", i, len(got), ok)
		}
	}
	odd := api.Term{Kind: api.Nil, S: "a", K: []api.Term{in(1)}}
	if got, ok := Items(cons(in(1), odd)); !ok || len(got) != 1 {
		t.Error("a Nil is one by its kind", got, ok)
	}
}

func TestTexts(t *testing.T) {
	for _, x := range []struct {
		t    api.Term
		want string
	}{
		{tuple(atom("a"), cons(in(1), empty())), "{a,[1|[]]}"}, // the chapter's example
		{in(0), "0"}, {in(-12), "-12"}, {raw(false, 0, 0, 1), "18446744073709551616"}, {raw(false, 5, 0), "0"},
		{atom("abc"), "abc"}, {atom(""), ""}, {atom("a b\x00\xff"), "a b\x00\xff"}, {empty(), "[]"},
		{cons(in(1), in(2)), "[1|2]"}, {cons(in(1), cons(in(2), empty())), "[1|[2|[]]]"}, {cons(cons(in(1), in(2)), in(3)), "[[1|2]|3]"},
		{cons(), "[[]|[]]"}, {cons(in(1)), "[1|[]]"}, {cons(in(1), in(2), in(3)), "[1|2]"},
		{tuple(), "{}"}, {tuple(in(1)), "{1}"}, {tuple(in(1), tuple(in(2), tuple()), in(3)), "{1,{2,{}},3}"}, {tuple(times(41, in(1))...), "{1" + strings.Repeat(",1", 40) + "}"},
		{bin(""), "<<>>"}, {bin("\x00\x0a\xa0\xff"), "<<000aa0ff>>"}, {bin("\x12\x34\x56\x78\x9b\xcd\xef"), "<<123456789bcdef>>"}, {bin(strings.Repeat("a", 401)), "<<" + strings.Repeat("61", 401) + ">>"},
		{fun(7, in(1)), "fun7"}, {fun(-1), "fun-1"}, {fun(math.MinInt), "fun-9223372036854775808"},
		{match("a", 0), "?"}, {catch(3), "?"}, {other(0), "?"}, {other(10), "?"}, {tuple(match("a", 0), other(-1)), "{?,?}"},
	} {
		if got := Text(x.t); got != x.want {
			t.Errorf("%q, not %q", got, x.want)
		}
	}
}

// All of them against their words

// slowText is Text by its words, with calls that are nested.
func slowText(x api.Term) string {
	switch x.Kind {
	case api.Int:
		return num.Text(x.I)
	case api.Atom:
		return x.S
	case api.Nil:
		return "[]"
	case api.Cons:
		two := append(slices.Clone(x.K), empty(), empty())
		return "[" + slowText(two[0]) + "|" + slowText(two[1]) + "]"
	case api.Tuple:
		var l []string
		for _, k := range x.K {
			l = append(l, slowText(k))
		}
		return "{" + strings.Join(l, ",") + "}"
	case api.Bin:
		return fmt.Sprintf("<<%x>>", x.S)
	case api.Fun:
		return fmt.Sprintf("fun%d", x.N)
	}
	return "?"
}

func TestThrownTerms(t *testing.T) {
	d := dice(1)
	var l []api.Term
	for range 300 {
		l = append(l, d.term(d.below(5)))
	}
	for _, a := range l {
		nodes, words := slowSizes(a)
		if Nodes(a) != nodes || Words(a) != words || Text(a) != slowText(a) {
			t.Fatalf("%v: Nodes %d, Words %d, Text %s", a, Nodes(a), Words(a), Text(a))
		}
		for _, b := range l {
			if Same(a, b) != slowSame(a, b) || Cmp(a, b) != slowCmp(a, b) {
				t.Fatalf("%v, %v: Same %t, Cmp %d", a, b, Same(a, b), Cmp(a, b))
			}
			near := tuple(a, b)
			if !Same(near, tuple(a, b)) || Cmp(near, tuple(a, a)) != slowCmp(b, a) {
				t.Fatalf("%v, %v in a tuple", a, b)
			}
		}
	}
}

// R1

const deep = 1 << 16

// deepTerms lie deeper than calls can be nested, where these have but a little memory.
func deepTerms() []api.Term {
	inTuples, inHeads, inTails, inFuns := empty(), empty(), empty(), empty()
	for range deep {
		inTuples, inHeads, inTails, inFuns = tuple(inTuples), cons(inHeads, empty()), cons(empty(), inTails), fun(1, inFuns)
	}
	return []api.Term{inTuples, inHeads, inTails, inFuns}
}

func TestDeepTermsEnd(t *testing.T) {
	defer debug.SetMaxStack(debug.SetMaxStack(1 << 20))
	again := deepTerms()
	for i, x := range deepTerms() {
		if Check(x) || Nodes(x) <= deep || Words(x) < deep || !Same(x, again[i]) || Cmp(x, again[i]) != 0 {
			t.Errorf("%d: Check %t, Nodes %d, Words %d", i, Check(x), Nodes(x), Words(x))
		}
		if text := Text(x); x.Kind != api.Fun && len(text) <= 2*deep {
			t.Errorf("%d: a text of %d bytes", i, len(text))
		}
		if Cmp(tuple(x, in(1)), tuple(again[i], in(2))) != -1 || Same(tuple(x, in(1)), tuple(again[i], in(2))) {
			t.Errorf("%d: what stands behind it plays a part", i)
		}
	}
}

// R3

// copied is a term in memory of its own, with spare room behind each list that is filled with marks.
func copied(t api.Term) api.Term {
	if len(t.I.L) > 0 {
		t.I.L = append(slices.Clone(t.I.L), 0xabcd, 0xabcd)[:len(t.I.L)]
	}
	var k []api.Term
	for _, x := range t.K {
		k = append(k, copied(x))
	}
	t.K = append(k, atom("spare"), atom("room"))[:len(k)]
	return t
}

// spread is all that a term has in memory, spare room too.
func spread(t api.Term) string {
	out := fmt.Sprint(t.Kind, t.I.Neg, t.I.L[:cap(t.I.L)], t.S, t.N, len(t.K), "(")
	for _, x := range t.K[:cap(t.K)] {
		out += spread(x)
	}
	return out + ")"
}

func TestTermsStayAsTheyWere(t *testing.T) {
	d := dice(2)
	l := append(rising(), cons(), cons(in(1)), cons(in(1), in(2), in(3)), List(times(50, in(1)), empty()))
	for range 100 {
		l = append(l, d.term(3))
	}
	for i, x := range l {
		a, b := copied(x), copied(l[(i+1)%len(l)])
		wasA, wasB := spread(a), spread(b)
		Check(a)
		Same(a, b)
		Same(a, copied(x))
		Cmp(a, b)
		Cmp(a, copied(x))
		Nodes(a)
		Words(a)
		Small(a.I)
		Text(a)
		Items(a)
		List([]api.Term{a, b}, a)
		if spread(a) != wasA || spread(b) != wasB {
			t.Errorf("%v, %v were changed", a, b)
		}
	}
}

func TestListsAreNewMemory(t *testing.T) {
	l := append(times(3, in(1)), atom("spare"), atom("room"))[:3]
	list := List(l, empty())
	l[0], l[1] = in(8), in(9)
	if Text(list) != "[1|[1|[1|[]]]]" {
		t.Errorf("the list is kept: %s", Text(list))
	}
	if l[:5][3].S != "spare" || l[:5][4].S != "room" {
		t.Error("the list's spare room was written to")
	}
	items, _ := Items(list)
	more, _ := Items(list)
	for i := range items[:cap(items)] {
		items[:cap(items)][i] = atom("x")
	}
	if Text(list) != "[1|[1|[1|[]]]]" || Text(more[0]) != "1" {
		t.Errorf("the items share memory: %s, %s", Text(list), Text(more[0]))
	}
	tail := tuple(in(1))
	one, two := List(times(2, in(1)), tail), List(times(2, in(1)), tail)
	one.K[0], one.K[1].K[0] = in(5), in(6)
	if Text(two) != "[1|[1|{1}]]" {
		t.Errorf("two lists share memory: %s", Text(two))
	}
}
