package ext

import (
	"bytes"
	"fmt"
	"math"
	"math/big"
	"reflect"
	"slices"
	"strings"
	"testing"

	"relict/api"
	"relict/num"
	"relict/term"
)

func in(v int) api.Term { return api.Term{Kind: api.Int, I: num.Of(v)} }

// power is 2^n and v, or its negative.
func power(neg bool, n, v int) api.Term {
	up, _ := num.Op(9, num.Of(1), num.Of(n))
	sum, ok := num.Op(1, up, num.Of(v))
	if !ok {
		panic("no room")
	}
	if neg {
		sum = num.Neg(sum)
	}
	return api.Term{Kind: api.Int, I: sum}
}

func raw(neg bool, l ...uint32) api.Term {
	return api.Term{Kind: api.Int, I: api.Num{Neg: neg, L: l}}
}

func atom(s string) api.Term { return api.Term{Kind: api.Atom, S: s} }

func empty() api.Term { return api.Term{Kind: api.Nil} }

// cons may be of more or fewer than two.
func cons(k ...api.Term) api.Term { return api.Term{Kind: api.Cons, K: k} }

func tuple(k ...api.Term) api.Term { return api.Term{Kind: api.Tuple, K: k} }

func bin(s string) api.Term { return api.Term{Kind: api.Bin, S: s} }

// list is a list that ends with Nil.
func list(l ...api.Term) api.Term { return term.List(l, empty()) }

func times(n int, t api.Term) []api.Term { return slices.Repeat([]api.Term{t}, n) }

// within is a term within so many tuples.
func within(n int, t api.Term) api.Term {
	for range n {
		t = tuple(t)
	}
	return t
}

// dice throws the same terms and bytes at every run.
type dice uint64

func (d *dice) below(n int) int {
	*d = *d*6364136223846793005 + 1442695040888963407
	return int(uint64(*d)>>33) % n
}

func (d *dice) number() api.Term {
	switch d.below(3) {
	case 0:
		return in(d.below(300) - 20)
	case 1:
		return power(d.below(2) == 0, d.below(70), d.below(5)-2)
	}
	l := make([]uint32, 1+d.below(api.MaxLimbs))
	for i := range l {
		l[i] = uint32(d.below(1<<31)) << d.below(9)
	}
	l[len(l)-1] |= 1 << d.below(32)
	return raw(d.below(2) == 0, l...)
}

// term is one that may be.
func (d *dice) term(deep int) api.Term {
	kind := d.below(7)
	if deep == 0 {
		kind %= 4
	}
	switch kind {
	case 0:
		return d.number()
	case 1:
		return atom(strings.Repeat(string(rune(33+d.below(94))), 1+d.below(api.MaxAtom)))
	case 2:
		return bin(strings.Repeat(string([]byte{byte(d.below(256))}), d.below(api.MaxBin+1)))
	case 3:
		return empty()
	case 4:
		return tuple(d.terms(d.below(5), deep-1)...)
	}
	return term.List(d.terms(d.below(5), deep-1), d.term(deep-1))
}

func (d *dice) terms(n, deep int) []api.Term {
	var out []api.Term
	for range n {
		out = append(out, d.term(deep))
	}
	return out
}

// P4.1

func expectPut(t *testing.T, x api.Term, want string) {
	t.Helper()
	for _, ahead := range []string{"", "ahead"} {
		if got := Put([]byte(ahead), x); string(got) != ahead+want {
			t.Errorf("Put of %.100s: % x, not % x", term.Text(x), got, ahead+want)
		}
	}
}

func TestExample(t *testing.T) {
	if got := fmt.Sprintf("% x", Put(nil, list(in(1)))); got != "6c 00 00 00 01 61 01 6a" {
		t.Error(got)
	}
}

func TestPutInt(t *testing.T) {
	for _, x := range []struct {
		t    api.Term
		want string
	}{
		{in(0), "\x61\x00"},
		{in(1), "\x61\x01"},
		{in(127), "\x61\x7f"},
		{in(128), "\x61\x80"},
		{in(255), "\x61\xff"},
		{in(256), "\x62\x00\x00\x01\x00"},
		{in(0x12345678), "\x62\x12\x34\x56\x78"},
		{in(math.MaxInt32), "\x62\x7f\xff\xff\xff"},
		{in(-1), "\x62\xff\xff\xff\xff"},
		{in(-255), "\x62\xff\xff\xff\x01"},
		{in(-256), "\x62\xff\xff\xff\x00"},
		{in(math.MinInt32), "\x62\x80\x00\x00\x00"},
		{in(math.MaxInt32 + 1), "\x6e\x04\x00\x00\x00\x00\x80"},
		{in(math.MinInt32 - 1), "\x6e\x04\x01\x01\x00\x00\x80"},
		{in(math.MaxUint32), "\x6e\x04\x00\xff\xff\xff\xff"},
		{in(-math.MaxUint32), "\x6e\x04\x01\xff\xff\xff\xff"},
		{in(1 << 32), "\x6e\x05\x00\x00\x00\x00\x00\x01"},
		{in(0x0102030405), "\x6e\x05\x00\x05\x04\x03\x02\x01"},
		{in(math.MaxInt), "\x6e\x08\x00\xff\xff\xff\xff\xff\xff\xff\x7f"},
		{in(math.MinInt), "\x6e\x08\x01\x00\x00\x00\x00\x00\x00\x00\x80"},
		{power(false, 64, 0), "\x6e\x09\x00\x00\x00\x00\x00\x00\x00\x00\x00\x01"},
		{power(true, 64, -1), "\x6e\x08\x01\xff\xff\xff\xff\xff\xff\xff\xff"},
		{raw(false, slices.Repeat([]uint32{math.MaxUint32}, 12)...), "\x6e\x30\x00" + strings.Repeat("\xff", 48)},
		{raw(true, 1, 0, 0, 0, 0, 0, 0, 0, 0, 0, 0, 0x010203), "\x6e\x2f\x01\x01" + strings.Repeat("\x00", 43) + "\x03\x02\x01"},
	} {
		expectPut(t, x.t, x.want)
	}
}

func TestPutOthers(t *testing.T) {
	name, body := strings.Repeat("n", api.MaxAtom), strings.Repeat("\x00\xff", api.MaxBin/2)
	for _, x := range []struct {
		t    api.Term
		want string
	}{
		{atom("a"), "\x77\x01a"},
		{atom("!~"), "\x77\x02!~"},
		{atom(name), "\x77\x28" + name},
		{empty(), "\x6a"},
		{bin(""), "\x6d\x00\x00\x00\x00"},
		{bin("a\x00\xff"), "\x6d\x00\x00\x00\x03a\x00\xff"},
		{bin(body), "\x6d\x00\x00\x01\x90" + body},
		{tuple(), "\x68\x00"},
		{tuple(in(1), atom("a")), "\x68\x02\x61\x01\x77\x01a"},
		{tuple(tuple(), tuple(empty())), "\x68\x02\x68\x00\x68\x01\x6a"},
		{tuple(times(40, empty())...), "\x68\x28" + strings.Repeat("\x6a", 40)},
		{list(in(1), in(2)), "\x6c\x00\x00\x00\x02\x61\x01\x61\x02\x6a"},
		{cons(in(1), in(2)), "\x6c\x00\x00\x00\x01\x61\x01\x61\x02"},
		{cons(in(1), cons(in(2), tuple())), "\x6c\x00\x00\x00\x02\x61\x01\x61\x02\x68\x00"},
		{list(list(in(1)), in(2)), "\x6c\x00\x00\x00\x02\x6c\x00\x00\x00\x01\x61\x01\x6a\x61\x02\x6a"},
		{cons(empty(), tuple(list(in(1)))), "\x6c\x00\x00\x00\x01\x6a\x68\x01\x6c\x00\x00\x00\x01\x61\x01\x6a"},
		{list(times(300, empty())...), "\x6c\x00\x00\x01\x2c" + strings.Repeat("\x6a", 301)},
		{list(times(999, in(1))...), "\x6c\x00\x00\x03\xe7" + strings.Repeat("\x61\x01", 999) + "\x6a"},
		{within(59, empty()), strings.Repeat("\x68\x01", 59) + "\x6a"},
	} {
		expectPut(t, x.t, x.want)
	}
}

// own is a term that has itself in it.
func own(kind int) api.Term {
	k := make([]api.Term, 2)
	k[0], k[1] = empty(), api.Term{Kind: kind, K: k}
	return k[1]
}

func TestPutOfSuchAsMayNotBe(t *testing.T) {
	for _, x := range []api.Term{
		{}, {Kind: 10}, {Kind: -1}, {Kind: math.MaxInt}, {Kind: api.Fun}, {Kind: api.Match, S: "a"}, {Kind: api.Catch, N: 1},
		raw(true), raw(false, 0), raw(false, 5, 0), raw(false, slices.Repeat([]uint32{1}, 13)...),
		atom(""), atom("a b"), atom("\x7f"), atom(strings.Repeat("a", 41)), bin(strings.Repeat("a", 401)),
		tuple(times(41, empty())...), tuple(in(1), atom("")), tuple(api.Term{Kind: api.Fun}), list(in(1), atom("")), cons(in(1), atom("")),
		cons(), cons(in(1)), cons(in(1), empty(), empty()), cons(in(1), cons(in(2))),
		{Kind: api.Nil, N: 1}, {Kind: api.Nil, S: "a"}, {Kind: api.Atom, S: "a", K: times(1, empty())}, {Kind: api.Int, N: 1},
		within(60, empty()), list(within(59, empty())), list(times(1000, in(1))...), list(times(1<<17, in(1))...), within(1<<17, empty()),
		own(api.Cons), own(api.Tuple),
	} {
		expectPut(t, x, "")
	}
}

// P4.2

// slow is Get by its words, with calls that are nested, and without Put.
type slow struct {
	b         []byte
	at, terms int
}

func slowGet(b []byte, at int) (api.Term, int, api.Errno) {
	if at < 0 || at > len(b) {
		return api.Term{}, 0, api.ErrArg
	}
	s := &slow{b: b, at: at}
	t, e := s.term(1)
	if e != api.OK {
		return api.Term{}, 0, e
	}
	return t, s.at, e
}

// bytes is the next n; nil, if they are not whole.
func (s *slow) bytes(n int) []byte {
	if s.at+n > len(s.b) {
		return nil
	}
	s.at += n
	return append([]byte{}, s.b[s.at-n:s.at]...)
}

func (s *slow) term(depth int) (api.Term, api.Errno) {
	tag := s.bytes(1)
	if tag == nil {
		return api.Term{}, api.ErrShort
	}
	if !strings.Contains("\x61\x62\x6e\x77\x6a\x6c\x68\x6d", string(tag)) || s.terms+1 > api.MaxTerm || depth > api.MaxDepth {
		return api.Term{}, api.ErrBytes
	}
	if tag[0] != 108 {
		s.terms++
	}
	n, e := s.count(tag[0])
	if e != api.OK {
		return api.Term{}, e
	}
	switch tag[0] {
	case 108:
		s.terms += n
		return s.list(n, depth)
	case 104:
		return s.tuple(n, depth)
	}
	return s.leaf(tag[0], n)
}

func (s *slow) count(tag byte) (int, api.Errno) {
	width := map[byte]int{110: 1, 119: 1, 108: 4, 104: 1, 109: 4}[tag]
	most := map[byte]int64{110: 48, 119: 40, 108: 2000 - int64(s.terms), 104: 40, 109: 400}[tag]
	l := s.bytes(width)
	if l == nil {
		return 0, api.ErrShort
	}
	n := new(big.Int).SetBytes(l).Int64()
	if n > most || n == 0 && (tag == 110 || tag == 119 || tag == 108) {
		return 0, api.ErrBytes
	}
	return int(n), api.OK
}

func (s *slow) leaf(tag byte, n int) (api.Term, api.Errno) {
	size := map[byte]int{97: 1, 98: 4, 110: n + 1, 119: n, 109: n}[tag]
	l := s.bytes(size)
	switch {
	case l == nil:
		return api.Term{}, api.ErrShort
	case tag == 119 && slices.ContainsFunc(l, func(c byte) bool { return c < 33 || c > 126 }):
		return api.Term{}, api.ErrBytes
	case tag == 119:
		return atom(string(l)), api.OK
	case tag == 109:
		return bin(string(l)), api.OK
	case tag == 106:
		return empty(), api.OK
	case tag == 97:
		return in(int(l[0])), api.OK
	}
	v := new(big.Int)
	if tag == 98 {
		v.SetBytes(l)
		if l[0] > 127 {
			v.Sub(v, big.NewInt(1<<32))
		}
		if v.Sign() >= 0 && v.BitLen() <= 8 {
			return api.Term{}, api.ErrBytes
		}
	} else {
		if l[0] > 1 || l[n] == 0 {
			return api.Term{}, api.ErrBytes
		}
		size := slices.Clone(l[1:])
		slices.Reverse(size)
		v.SetBytes(size)
		if l[0] == 1 {
			v.Neg(v)
		}
		if v.IsInt64() && v.Int64() >= math.MinInt32 && v.Int64() <= math.MaxInt32 {
			return api.Term{}, api.ErrBytes
		}
	}
	i, _ := num.Parse(v.String())
	return api.Term{Kind: api.Int, I: i}, api.OK
}

func (s *slow) tuple(n, depth int) (api.Term, api.Errno) {
	out := tuple()
	for range n {
		k, e := s.term(depth + 1)
		if e != api.OK {
			return api.Term{}, e
		}
		out.K = append(out.K, k)
	}
	return out, api.OK
}

func (s *slow) list(n, depth int) (api.Term, api.Errno) {
	heads, e := s.tuple(n, depth)
	if e != api.OK {
		return api.Term{}, e
	}
	tail, e := s.term(depth)
	if e != api.OK {
		return api.Term{}, e
	}
	if tail.Kind == api.Cons {
		return api.Term{}, api.ErrBytes
	}
	return term.List(heads.K, tail), api.OK
}

// expectError also holds slowGet to it, so that what is thrown at both is judged by these words.
func expectError(t *testing.T, b string, want api.Errno) {
	t.Helper()
	for _, ahead := range []string{"", "\x6a", "\x6c\x00\x00\x00"} {
		got, at, e := Get([]byte(ahead+b), len(ahead))
		if e != want || !reflect.DeepEqual(got, api.Term{}) || at != 0 {
			t.Errorf("Get of %.100q: %d, not %d, at %d, %v", b, e, want, at, got)
		}
	}
	if _, _, e := slowGet([]byte(b), 0); e != want {
		t.Errorf("slowGet of %.100q: %d, not %d", b, e, want)
	}
}

func expectShort(t *testing.T, l ...string) {
	t.Helper()
	for _, b := range l {
		expectError(t, b, api.ErrShort)
	}
}

func expectWrong(t *testing.T, l ...string) {
	t.Helper()
	for _, b := range l {
		expectError(t, b, api.ErrBytes)
	}
}

// expectGot asks for a term, and that nothing is read behind it.
func expectGot(t *testing.T, b string, want api.Term) {
	t.Helper()
	for _, x := range []struct{ ahead, behind string }{{"", ""}, {"ahead", ""}, {"", "\xff"}, {"\x6c", "\x00\x00"}} {
		got, at, e := Get([]byte(x.ahead+b+x.behind), len(x.ahead))
		if e != api.OK || at != len(x.ahead)+len(b) || !term.Same(got, want) || !term.Check(got) {
			t.Errorf("Get of %.100q: %d, at %d, %.300s", b, e, at, term.Text(got))
		}
	}
}

func TestGetOfPlaces(t *testing.T) {
	b := []byte("\x6a\x61\x07")
	for _, at := range []int{-1, 4, 5, math.MaxInt, math.MinInt, 1 << 32} {
		if got, next, e := Get(b, at); e != api.ErrArg || next != 0 || got.Kind != 0 {
			t.Error(at, got, next, e)
		}
	}
	if _, _, e := Get(b, 3); e != api.ErrShort {
		t.Error("at the end", e)
	}
	for _, at := range []int{-1, 1} {
		if _, _, e := Get(nil, at); e != api.ErrArg {
			t.Error("of nothing", at, e)
		}
	}
	if _, _, e := Get(nil, 0); e != api.ErrShort {
		t.Error("of nothing", e)
	}
	if got, next, e := Get(b, 1); e != api.OK || next != 3 || !term.Same(got, in(7)) {
		t.Error(got, next, e)
	}
}

func TestGetOfFirstBytes(t *testing.T) {
	for c := range 256 {
		want := api.ErrBytes
		switch c {
		case 97, 98, 104, 108, 109, 110, 119:
			want = api.ErrShort
		case 106:
			continue
		}
		expectError(t, string([]byte{byte(c)}), want)
		expectError(t, "\x68\x02\x6a"+string([]byte{byte(c)}), want)
	}
	expectGot(t, "\x6a", empty())
}

func TestGetInt(t *testing.T) {
	expectGot(t, "\x61\x00", in(0))
	expectGot(t, "\x61\xff", in(255))
	expectGot(t, "\x62\x00\x00\x01\x00", in(256))
	expectGot(t, "\x62\x80\x00\x00\x00", in(math.MinInt32))
	expectGot(t, "\x62\xff\xff\xff\xff", in(-1))
	expectGot(t, "\x6e\x04\x00\x00\x00\x00\x80", in(math.MaxInt32+1))
	expectGot(t, "\x6e\x04\x01\x01\x00\x00\x80", in(math.MinInt32-1))
	expectGot(t, "\x6e\x09\x01\x00\x00\x00\x00\x00\x00\x00\x00\x01", power(true, 64, 0))
	expectGot(t, "\x6e\x30\x00"+strings.Repeat("\xff", 48), raw(false, slices.Repeat([]uint32{math.MaxUint32}, 12)...))
	expectShort(t, "\x61", "\x62\x00\x00\x00", "\x62\xff", "\x6e", "\x6e\x30", "\x6e\x04\x00\x00\x00\x00", "\x6e\x01\x00", "\x6e\x01\x02", "\x6e\x30\x00"+strings.Repeat("\xff", 47))
	expectWrong(t,
		"\x62\x00\x00\x00\x00", "\x62\x00\x00\x00\xff", // they have room in a byte
		"\x6e\x00", "\x6e\x00\x00", "\x6e\x31", "\x6e\xff", "\x6e\x31\x00"+strings.Repeat("\xff", 49), // so many may not be
		"\x6e\x04\x02\x00\x00\x00\x80", "\x6e\x04\xff\x00\x00\x00\x80", // no sign
		"\x6e\x01\x00\x05", "\x6e\x04\x00\xff\xff\xff\x7f", "\x6e\x04\x01\x00\x00\x00\x80", "\x6e\x02\x01\x05\x05", // they have room in four bytes
		"\x6e\x05\x00\x00\x00\x00\x80\x00", "\x6e\x05\x01\x01\x00\x00\x80\x00", "\x6e\x09\x00\x00\x00\x00\x00\x00\x00\x00\x80\x00", // a 0 at the top
		"\x6e\x01\x00\x00", "\x6e\x01\x01\x00", "\x6e\x30\x01"+strings.Repeat("\x00", 48), // 0
	)
}

func TestGetAtomAndBin(t *testing.T) {
	name, body := strings.Repeat("n", api.MaxAtom), strings.Repeat("\x00\xff", api.MaxBin/2)
	expectGot(t, "\x77\x01!", atom("!"))
	expectGot(t, "\x77\x28"+name, atom(name))
	expectGot(t, "\x6d\x00\x00\x00\x00", bin(""))
	expectGot(t, "\x6d\x00\x00\x01\x90"+body, bin(body))
	expectShort(t, "\x77", "\x77\x01", "\x77\x28"+name[1:], "\x77\x02 ", "\x6d", "\x6d\xff\xff\xff", "\x6d\x00\x00\x00\x01", "\x6d\x00\x00\x01\x90"+body[1:])
	expectWrong(t, "\x77\x00", "\x77\x29", "\x77\x29n"+name, "\x77\xff", "\x77\x01 ", "\x77\x02a\x7f", "\x77\x02\xffa", "\x77\x02a\x00",
		"\x6d\x00\x00\x01\x91", "\x6d\x00\x00\x01\x91a"+body, "\x6d\x00\x01\x00\x00", "\x6d\xff\xff\xff\xff", "\x6d\x80\x00\x00\x00")
}

func TestGetOfParts(t *testing.T) {
	expectGot(t, "\x68\x00", tuple())
	expectGot(t, "\x68\x28"+strings.Repeat("\x6a", 40), tuple(times(40, empty())...))
	expectGot(t, "\x68\x02\x68\x01\x6a\x68\x00", tuple(tuple(empty()), tuple()))
	expectGot(t, "\x6c\x00\x00\x00\x01\x61\x01\x6a", list(in(1)))
	expectGot(t, "\x6c\x00\x00\x00\x02\x6c\x00\x00\x00\x01\x61\x01\x61\x02\x61\x03\x68\x01\x6a", cons(cons(in(1), in(2)), cons(in(3), tuple(empty()))))
	expectShort(t, "\x68", "\x68\x28", "\x68\x01", "\x68\x02\x6a", "\x68\x02\x6a\x61", "\x6c", "\x6c\x00\x00\x00", "\x6c\xff\xff\xff", "\x6c\x00\x00\x00\x01", "\x6c\x00\x00\x00\x01\x6a", "\x6c\x00\x00\x00\x02\x6a\x6a")
	expectWrong(t, "\x68\x29", "\x68\xff", "\x68\x29"+strings.Repeat("\x6a", 41), "\x68\x02\x6a\x00", "\x68\x02\x00",
		"\x6c\x00\x00\x00\x00", "\x6c\x00\x00\x00\x00\x6a", "\x6c\xff\xff\xff\xff", "\x6c\x80\x00\x00\x01\x6a\x6a", "\x6c\x00\x00\x00\x01\x00", "\x6c\x00\x00\x00\x01\x6a\x00")
}

func TestGetOfTailsThatAreConses(t *testing.T) {
	one := "\x6c\x00\x00\x00\x01\x6a"
	expectWrong(t, one+one+"\x6a", one+one+"\x6a\x6a", one+one+one+"\x6a", "\x68\x02"+one+one+"\x6a", one+one+"\x00", strings.Repeat(one, 999)+"\x6a")
	// It is the tail that is whole that is wrong, not its first byte.
	expectShort(t, one+one, one+"\x6c", one+"\x6c\x00\x00\x00", one+one+one, strings.Repeat(one, 1000))
	expectGot(t, one+"\x68\x01"+one+"\x6a", cons(empty(), tuple(list(empty()))))
	expectGot(t, "\x6c\x00\x00\x00\x01"+one+"\x6a\x6a", list(list(empty())))
}

func TestGetOfDepth(t *testing.T) {
	in59, one := strings.Repeat("\x68\x01", 59), "\x6c\x00\x00\x00\x01"
	expectGot(t, in59+"\x6a", within(59, empty()))
	expectGot(t, in59+"\x68\x00", within(59, tuple()))
	expectGot(t, in59[2:]+one+"\x61\x01\x6a", within(58, list(in(1))))
	expectGot(t, one+"\x6a"+in59+"\x6a", cons(empty(), within(59, empty())))
	expectGot(t, one+in59[2:]+"\x6a\x6a", list(within(58, empty())))
	expectGot(t, one+one+in59[4:]+"\x6a\x6a\x6a", list(list(within(57, empty()))))
	expectShort(t, in59, in59+"\x68\x01", in59+one, one+"\x6a"+in59+"\x68\x01", one+in59)
	expectWrong(t, in59+"\x68\x01\x6a", in59+"\x68\x01\x61", in59+"\x68\x29", in59+one+"\x6a\x6a", one+"\x6a"+in59+"\x68\x01\x6a", one+in59+"\x6a\x6a", one+in59+"\x6a", strings.Repeat("\x68\x01", 1<<16), strings.Repeat(one, 1<<16))
}

// fullList is a list's bytes up to where so many terms have been counted: its Conses, and heads without parts.
func fullList(conses, heads int) string {
	return "\x6c\x00\x00" + string([]byte{byte(conses >> 8), byte(conses)}) + strings.Repeat("\x6a", heads)
}

func TestGetOfManyTerms(t *testing.T) {
	expectGot(t, fullList(999, 999)+"\x6a", list(times(999, empty())...))
	expectGot(t, fullList(999, 999)+"\x68\x01\x6a", term.List(times(999, empty()), tuple(empty())))
	expectGot(t, fullList(998, 997)+"\x68\x03\x6a\x6a\x6a\x6a", term.List(times(997, empty()), cons(tuple(times(3, empty())...), empty())))
	expectShort(t, fullList(2000, 0), fullList(1999, 1), fullList(1999, 0), fullList(1000, 1000), fullList(1500, 500), fullList(999, 999)+"\x68\x01", fullList(999, 999)+"\x68\x02\x6a", fullList(1998, 1)+"\x6c\x00\x00\x00\x01", fullList(1998, 1)+"\x6c\x00\x00\x00")
	expectWrong(t, fullList(2001, 0), fullList(2001, 2), fullList(2000, 1), fullList(1999, 2), fullList(1000, 1001), fullList(999, 999)+"\x68\x02\x6a\x6a", fullList(2000, 0)+"\x61", fullList(2000, 0)+"\x77\x02", fullList(998, 997)+"\x68\x04\x6a\x6a\x6a\x6a\x6a",
		fullList(1998, 1)+"\x6c\x00\x00\x00\x02", fullList(1998, 0)+"\x6c\x00\x00\x00\x03", fullList(1998, 1)+"\x6c\x00\x00\x00\x01\x6a",
		fullList(2000, 0)+"\x6c", fullList(2000, 0)+"\x6c\x00\x00\x00\x01")
	// Terms are counted anew at each call.
	b := []byte(strings.Repeat(fullList(999, 999)+"\x6a", 3))
	at := 0
	for range 3 {
		_, next, e := Get(b, at)
		if e != api.OK {
			t.Fatal(at, e)
		}
		at = next
	}
	if at != len(b) {
		t.Error(at)
	}
}

func expectAsSlow(t *testing.T, b []byte, at int) api.Errno {
	t.Helper()
	got, next, e := Get(b, at)
	want, wantNext, wantE := slowGet(b, at)
	if next != wantNext || e != wantE || !term.Same(got, want) {
		t.Fatalf("Get of %q at %d: %s, %d, %d, not %s, %d, %d", b, at, term.Text(got), next, e, term.Text(want), wantNext, wantE)
	}
	if e != api.OK {
		return e
	}
	if !term.Check(got) || !bytes.Equal(Put(nil, got), b[at:next]) {
		t.Fatalf("Put of what is got from %q at %d: %q", b, at, Put(nil, got))
	}
	return e
}

func TestThrownBytes(t *testing.T) {
	d := dice(1)
	letters := []byte("\x61\x62\x6e\x77\x6a\x6a\x6a\x6c\x68\x6d\x00\x00\x00\x01\x01\x02\x03\x04\x80\xff")
	for range 50000 {
		b := make([]byte, d.below(30))
		for i := range b {
			b[i] = letters[d.below(len(letters))]
		}
		expectAsSlow(t, b, d.below(len(b)+3)-1)
	}
}

func TestSpoiledBytes(t *testing.T) {
	d := dice(2)
	seen := map[api.Errno]int{}
	for range 3000 {
		b := Put(nil, d.term(1+d.below(4)))
		for range 10 {
			spoiled := slices.Clone(b)
			for range 1 + d.below(2) {
				spoiled[d.below(len(b))] = byte(d.below(256)) >> d.below(8)
			}
			seen[expectAsSlow(t, spoiled, 0)]++
		}
	}
	if seen[api.OK] == 0 || seen[api.ErrShort] == 0 || seen[api.ErrBytes] == 0 {
		t.Error("not all ends were met", seen)
	}
}

// P4.3

func TestWhatIsPutIsGot(t *testing.T) {
	d := dice(3)
	for range 2000 {
		x := d.term(d.below(6))
		ahead := make([]byte, d.below(4))
		b := Put(ahead, x)
		for _, behind := range []string{"", "\x6a", "\xff\xff"} {
			got, at, e := Get(append(slices.Clone(b), behind...), len(ahead))
			if !term.Same(got, x) || at != len(b) || e != api.OK {
				t.Fatalf("%s: %s, %d, %d", term.Text(x), term.Text(got), at, e)
			}
		}
		for range 5 {
			cut := len(ahead) + d.below(len(b)-len(ahead))
			if got, at, e := Get(b[:cut], len(ahead)); got.Kind != 0 || at != 0 || e != api.ErrShort {
				t.Fatalf("%s cut to %d of %d: %d, %d", term.Text(x), cut, len(b), at, e)
			}
		}
	}
}

func TestOneBehindTheOther(t *testing.T) {
	d := dice(4)
	var l []api.Term
	var b []byte
	for range 200 {
		l = append(l, d.term(3))
		b = Put(b, l[len(l)-1])
	}
	at := 0
	for i, x := range l {
		got, next, e := Get(b, at)
		if !term.Same(got, x) || e != api.OK {
			t.Fatal(i, at, e)
		}
		at = next
	}
	if at != len(b) {
		t.Error(at)
	}
}

func TestNumbersArePutAndGot(t *testing.T) {
	for n := range 32 * api.MaxLimbs {
		for _, v := range []int{-1, 0, 1} {
			for _, neg := range []bool{false, true} {
				x := power(neg, n, v)
				b := Put(nil, x)
				if got, at, e := Get(b, 0); !term.Same(got, x) || at != len(b) || e != api.OK {
					t.Fatalf("%s: %q, %s, %d", term.Text(x), b, term.Text(got), e)
				}
			}
		}
	}
}

// R3

func TestBytesStayAsTheyWere(t *testing.T) {
	for _, x := range []api.Term{empty(), in(1), in(-1), power(true, 80, 0), atom("abc"), bin("abc"), tuple(in(1), in(2)), list(in(1), in(2)), {}, tuple(atom(""))} {
		whole := []byte("given and its spare room")
		b := whole[:5]
		got := Put(b, x)
		_ = append(got, "over"...)
		if string(whole) != "given and its spare room" {
			t.Errorf("Put of %s wrote: %q", term.Text(x), whole)
		}
		first := string(got)
		if again := Put(whole[:5], x); string(again) != first || string(got) != first {
			t.Errorf("Put of %s again: %q, %q, not %q", term.Text(x), again, got, first)
		}
		if Put(got, empty()); string(got) != first {
			t.Errorf("Put behind %q changed it: %q", first, got)
		}
	}
}

func TestTermsStayAsTheyWere(t *testing.T) {
	d := dice(5)
	for range 300 {
		x := d.term(4)
		was := fmt.Sprint(x)
		b := Put(nil, x)
		for i := range b {
			b[i] = ^b[i]
		}
		if fmt.Sprint(x) != was {
			t.Fatalf("%s was changed", was)
		}
	}
	k := append(times(3, in(1)), atom("spare"), atom("room"))
	Put(nil, tuple(k[:3]...))
	Put(nil, api.Term{Kind: api.Tuple, K: k[:3]})
	Put(nil, cons(k[0], api.Term{Kind: api.Cons, K: k[1:3]}))
	if k[3].S != "spare" || k[4].S != "room" {
		t.Error("spare room was written to", k)
	}
}

// spoil turns over all the memory that a term has, spare room too.
func spoil(t api.Term) {
	for i := range t.I.L[:cap(t.I.L)] {
		t.I.L[:cap(t.I.L)][i] ^= 0xffff
	}
	for i := range t.K[:cap(t.K)] {
		k := t.K[:cap(t.K)]
		if i < len(t.K) {
			spoil(k[i])
		}
		k[i] = api.Term{Kind: api.Catch, N: i}
	}
}

func TestTermsAreNewMemory(t *testing.T) {
	d := dice(6)
	for range 300 {
		x := tuple(d.term(3), d.term(3), d.number())
		b := Put(nil, x)
		kept := slices.Clone(b)
		got, _, _ := Get(b, 0)
		other, _, _ := Get(b, 0)
		if !bytes.Equal(b, kept) {
			t.Fatal("bytes were changed")
		}
		for i := range b {
			b[i] = ^b[i]
		}
		if !term.Same(got, x) {
			t.Fatalf("%s is in the bytes' memory", term.Text(x))
		}
		spoil(got)
		if again, _, _ := Get(kept, 0); !term.Same(other, x) || !term.Same(again, x) {
			t.Fatalf("%s is in the memory of another", term.Text(x))
		}
	}
	// What stands twice in the bytes is there twice.
	got, _, _ := Get([]byte("\x68\x02\x68\x01\x61\x07\x68\x01\x61\x07"), 0)
	spoil(got.K[0])
	if !term.Same(got.K[1], tuple(in(7))) {
		t.Error("two parts share memory", got)
	}
}
