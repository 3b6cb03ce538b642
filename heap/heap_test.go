package heap

import (
	"fmt"
	"math"
	"slices"
	"strings"
	"testing"

	"relict/api"
	"relict/num"
	"relict/term"
)

func check[T comparable](t *testing.T, what string, got, want T) {
	t.Helper()
	if got != want {
		t.Fatalf("%s: %v, not %v", what, got, want)
	}
}

func in(v int) api.Term { return api.Term{Kind: api.Int, I: num.Of(v)} }

func raw(neg bool, l ...uint32) api.Term {
	return api.Term{Kind: api.Int, I: api.Num{Neg: neg, L: l}}
}

func atom(s string) api.Term { return api.Term{Kind: api.Atom, S: s} }

func empty() api.Term { return api.Term{Kind: api.Nil} }

func cons(k ...api.Term) api.Term { return api.Term{Kind: api.Cons, K: k} }

func tuple(k ...api.Term) api.Term { return api.Term{Kind: api.Tuple, K: k} }

func bin(s string) api.Term { return api.Term{Kind: api.Bin, S: s} }

func fun(n int, k ...api.Term) api.Term { return api.Term{Kind: api.Fun, N: n, K: k} }

func match(s string, n int) api.Term { return api.Term{Kind: api.Match, S: s, N: n} }

func catch(l int) api.Term { return api.Term{Kind: api.Catch, N: l} }

func other(kind int) api.Term { return api.Term{Kind: kind} }

func times(n int, t api.Term) []api.Term { return slices.Repeat([]api.Term{t}, n) }

// within is a term within so many tuples.
func within(n int, t api.Term) api.Term {
	for range n {
		t = tuple(t)
	}
	return t
}

// dice throws the same numbers and terms at every run.
type dice uint64

func (d *dice) word() uint64 {
	*d = *d*6364136223846793005 + 1442695040888963407
	w := uint64(*d)
	return w ^ w>>31
}

func (d *dice) below(n int) int { return int(d.word() % uint64(n)) }

func pick[T any](d *dice, l ...T) T { return l[d.below(len(l))] }

// number is one that may be, but now and then one that may not.
func (d *dice) number() api.Num {
	l := make([]uint32, pick(d, 0, 1, 1, 2, 2, 3, 11, 12, 13))
	for i := range l {
		l[i] = pick[uint32](d, 0, 1, 7, 1<<27-1, 1<<27, math.MaxUint32)
	}
	return api.Num{Neg: d.below(2) == 0, L: l}
}

func (d *dice) bytes() string {
	b := make([]byte, pick(d, 0, 1, 7, 8, 9, 16, 17, 40))
	for i := range b {
		b[i] = byte(d.word())
	}
	return string(b)
}

// alone is a term that may be put and is made of nothing, but may have what plays no part.
func (d *dice) alone() api.Term {
	t := api.Term{Kind: pick(d, api.Int, api.Atom, api.Nil, api.Bin)}
	switch t.Kind {
	case api.Int:
		t.I = pick(d, num.Of(d.below(9)-4), d.number())
	case api.Atom:
		t.S = pick(d, "a", "b", "ok", "error", "a b", "")
	case api.Bin:
		t.S = d.bytes()
	}
	if d.below(9) == 0 {
		t.N = d.below(3) - 1
		t.K = []api.Term{pick(d, tuple(), match("a", 0), other(0), fun(-1), cons(), atom("none"))}
	}
	return t
}

// term is a term that may be put; flaw says how seldom something in it is such that it may not.
func (d *dice) term(deep, flaw int) api.Term {
	if d.below(flaw) == 0 {
		return pick(d, other(0), other(-1), match("abc", 1), catch(2), other(10), other(math.MaxInt), other(math.MinInt), fun(-1), fun(math.MinInt, empty()), cons(), cons(atom("z")), cons(empty(), empty(), empty()))
	}
	if deep == 0 || d.below(4) == 0 {
		return d.alone()
	}
	n := pick(d, 0, 1, 2, 3)
	t := api.Term{Kind: pick(d, api.Cons, api.Tuple, api.Fun)}
	if t.Kind == api.Cons {
		n = 2
	}
	if t.Kind == api.Fun {
		t.N = pick(d, 0, 1, 5, 1<<40, 1<<59-1)
	}
	for range n {
		t.K = append(t.K, d.term(deep-1, flaw))
	}
	return t
}

// answer is what Put, Number and Bytes answer.
type answer struct {
	w  uint64
	ok bool
}

func put(h *Heap, t api.Term) answer {
	w, ok := h.Put(t)
	return answer{w, ok}
}

func number(h *Heap, n api.Num) answer {
	w, ok := h.Number(n)
	return answer{w, ok}
}

func bytes(h *Heap, b []byte) answer {
	w, ok := h.Bytes(b)
	return answer{w, ok}
}

// told is what a heap tells of itself.
func told(h *Heap) string {
	s := fmt.Sprint(h.A.Size(), h.A.Words())
	for n := -2; n < 20; n++ {
		name, ok := h.Name(n)
		s += fmt.Sprintf(" %d %q %t", n, name, ok)
	}
	return s
}

// second is a heap by the words of the chapters: its words, its atoms, each word by its bits.
type second struct {
	size  int
	words []uint64
	names []string
}

func (m *second) atom(name string) uint64 {
	if !slices.Contains(m.names, name) {
		m.names = append(m.names, name)
	}
	return uint64(slices.Index(m.names, name)+1)<<4 + 7
}

func (m *second) name(n int) (string, bool) {
	if n <= 0 || n > len(m.names) {
		return "", false
	}
	return m.names[n-1], true
}

// mayPut is whether a term is such as may be put.
func mayPut(t api.Term) bool {
	switch {
	case t.Kind < api.Int || t.Kind > api.Fun:
		return false
	case t.Kind == api.Cons && len(t.K) != 2, t.Kind == api.Fun && t.N < 0:
		return false
	case t.Kind == api.Cons || t.Kind == api.Tuple || t.Kind == api.Fun:
		for _, k := range t.K {
			if !mayPut(k) {
				return false
			}
		}
	}
	return true
}

func (m *second) put(t api.Term) answer {
	if !mayPut(t) || len(m.words)+term.Words(t) > m.size {
		return answer{}
	}
	return answer{m.lay(t), true}
}

// lay puts a term that may be put and has room.
func (m *second) lay(t api.Term) uint64 {
	var own []uint64
	switch t.Kind {
	case api.Int:
		n := t.I
		if !num.Check(n) {
			n = api.Num{}
		}
		if term.Small(n) {
			v, _ := num.Int(n)
			return uint64(v)<<4 + 3
		}
		for _, x := range n.L {
			own = append(own, uint64(x))
		}
		if n.Neg {
			return m.box(3, own)
		}
		return m.box(2, own)
	case api.Atom:
		return m.atom(t.S)
	case api.Nil:
		return 11
	case api.Bin:
		own = append(own, uint64(len(t.S)))
		for s := t.S; s != ""; s = s[min(8, len(s)):] {
			w := uint64(0)
			for _, b := range []byte((s[:min(8, len(s))] + "\x00\x00\x00\x00\x00\x00\x00")[:8]) {
				w = w*256 + uint64(b)
			}
			own = append(own, w)
		}
		return m.box(4, own)
	}
	for _, k := range t.K {
		own = append(own, m.lay(k))
	}
	switch t.Kind {
	case api.Cons:
		m.words = append(m.words, own...)
		return uint64(len(m.words)-2)*4 + 1
	case api.Tuple:
		return m.box(1, own)
	}
	return m.box(6, slices.Concat([]uint64{uint64(t.N)<<4 + 3}, own))
}

func (m *second) box(kind int, own []uint64) uint64 {
	at := len(m.words)
	m.words = append(m.words, uint64(len(own))<<6+uint64(kind)<<2)
	m.words = append(m.words, own...)
	return uint64(at)*4 + 2
}

// told is what a heap of these words and atoms must tell.
func (m *second) told() string {
	s := fmt.Sprint(m.size, slices.Concat([]uint64{}, m.words))
	for n := -2; n < 20; n++ {
		name, ok := m.name(n)
		s += fmt.Sprintf(" %d %q %t", n, name, ok)
	}
	return s
}

// cell is the two words of a list's cell; false, if there is none.
func (m *second) cell(w uint64) ([]uint64, bool) {
	at := w / 4
	if w%4 != 1 || at >= uint64(len(m.words)) || m.words[at]%4 == 0 || at+2 > uint64(len(m.words)) {
		return nil, false
	}
	return m.words[at : at+2], true
}

// object is the kind of a box's object and the words behind its head; false, if there is none.
func (m *second) object(w uint64) (int, []uint64, bool) {
	at := w / 4
	if w%4 != 2 || at >= uint64(len(m.words)) || m.words[at]%4 != 0 {
		return 0, nil, false
	}
	kind, size := m.words[at]/4%16, m.words[at]/64
	if kind < 1 || kind > 6 || size > uint64(len(m.words)) || at+1+size > uint64(len(m.words)) {
		return 0, nil, false
	}
	return int(kind), m.words[at+1 : at+1+size], true
}

func (m *second) good(w uint64) bool {
	_, isCell := m.cell(w)
	_, _, isObject := m.object(w)
	return isCell || isObject || w%4 == 3 && w%16 != 15
}

func (m *second) get(w uint64) (api.Term, bool) {
	nodes := 0
	t, ok := m.read(w, &nodes)
	if !ok || nodes > 2000 {
		return api.Term{}, false
	}
	return t, true
}

func (m *second) read(w uint64, nodes *int) (api.Term, bool) {
	*nodes++
	if *nodes > 2000 {
		return api.Term{}, false
	}
	if w%4 == 3 {
		return m.now(w)
	}
	if l, ok := m.cell(w); ok {
		k, ok := m.all(l, nodes)
		return cons(k...), ok
	}
	kind, l, _ := m.object(w)
	switch kind {
	case 1:
		k, ok := m.all(l, nodes)
		return tuple(k...), ok
	case 2, 3:
		t := raw(kind == 3)
		for _, x := range l {
			if x>>32 != 0 {
				return t, false
			}
			t.I.L = append(t.I.L, uint32(x))
		}
		return t, len(l) > 0 && num.Check(t.I)
	case 4:
		s, ok := m.binary(w)
		return bin(s), ok
	case 5:
		if len(l) != 2 {
			return api.Term{}, false
		}
		s, ok := m.binary(l[0])
		return match(s, int(l[1])), ok && l[1] <= uint64(len(s))
	case 6:
		if len(l) == 0 || l[0]%16 != 3 || l[0]>>63 != 0 {
			return api.Term{}, false
		}
		k, ok := m.all(l[1:], nodes)
		return fun(int(l[0]/16), k...), ok
	}
	return api.Term{}, false
}

func (m *second) now(w uint64) (api.Term, bool) {
	n := int(w >> 4)
	switch w % 16 {
	case 3:
		if w>>63 == 1 {
			n -= 1 << 60
		}
		return in(n), true
	case 7:
		s, ok := m.name(n)
		return atom(s), ok
	case 15:
		return catch(n), true
	}
	return empty(), n == 0
}

func (m *second) all(l []uint64, nodes *int) ([]api.Term, bool) {
	var out []api.Term
	for _, w := range l {
		t, ok := m.read(w, nodes)
		if !ok {
			return nil, false
		}
		out = append(out, t)
	}
	return out, true
}

func (m *second) binary(w uint64) (string, bool) {
	kind, l, _ := m.object(w)
	if kind != 4 || len(l) == 0 {
		return "", false
	}
	var b []byte
	for _, x := range l[1:] {
		for i := range 8 {
			b = append(b, byte(x>>(56-8*i)))
		}
	}
	if l[0] > uint64(len(b)) || uint64(len(b)) >= l[0]+8 {
		return "", false
	}
	return string(b[:l[0]]), true
}

// of is a heap of these words and atoms.
func (m *second) of() *Heap {
	h := New(m.size)
	for _, name := range m.names {
		h.Atom(name)
	}
	h.A.Alloc(len(m.words))
	for at, w := range m.words {
		h.A.Set(at, w)
	}
	return h
}

// heapOf is a heap in which just these words are used.
func heapOf(words ...uint64) *Heap {
	m := second{size: len(words), words: words}
	return m.of()
}

func TestExample(t *testing.T) {
	h := New(2)
	check(t, "Put of [1]", put(h, cons(in(1), empty())), answer{1, true})
	check(t, "two words", fmt.Sprint(h.A.Words()), "[19 11]")
}

// P12.1

func TestNew(t *testing.T) {
	for _, x := range [][2]int{{0, 0}, {1, 1}, {7, 7}, {-1, 0}, {math.MinInt, 0}, {api.MaxHeap, api.MaxHeap}, {api.MaxHeap + 1, api.MaxHeap}, {math.MaxInt, api.MaxHeap}} {
		h := New(x[0])
		check(t, "size", h.A.Size(), x[1])
		check(t, "used", h.A.Used(), 0)
		name, ok := h.Name(1)
		check(t, "no atom", name != "" || ok, false)
	}
}

func TestAtoms(t *testing.T) {
	h := New(0)
	m := second{}
	var d dice
	for range 600 {
		name := strings.Repeat(pick(&d, "", "a", "A", "\x00", "é", "{}"), d.below(60))
		check(t, name, h.Atom(name), m.atom(name))
		n := d.below(len(m.names)+5) - 2
		got, ok := h.Name(n)
		want, there := m.name(n)
		check(t, "Name", fmt.Sprintf("%q %t", got, ok), fmt.Sprintf("%q %t", want, there))
	}
	for _, n := range []int{0, -1, len(m.names) + 1, math.MinInt, math.MaxInt, 1 << 32, 1<<32 + 1, 1<<40 + 1} {
		name, ok := h.Name(n)
		check(t, "no name", name != "" || ok, false)
	}
	check(t, "nothing used", h.A.Used(), 0)
}

func TestTwoHeaps(t *testing.T) {
	a, b := New(9), New(9)
	a.Atom("x")
	a.Put(tuple(atom("y")))
	check(t, "the other one", told(b), told(New(9)))
	check(t, "an atom of it", b.Atom("y"), 23)
}

// P12.2

// TestPut: one term behind the other, some of them such as may not be put or have no room, as the chapter says it.
func TestPut(t *testing.T) {
	var d dice
	for range 3000 {
		m := second{size: d.below(120)}
		h := New(m.size)
		for range 6 {
			x := d.term(4, pick(&d, 8, 100, 1<<20))
			text := fmt.Sprintf("Put of %.300s", fmt.Sprint(x))
			used := h.A.Used()
			got := put(h, x)
			check(t, text, got, m.put(x))
			check(t, text, told(h), m.told())
			if got.ok {
				expectTerm(t, h, got.w, x)
				check(t, "no more words than Words says", h.A.Used()-used <= term.Words(x), true)
			}
		}
	}
}

// expectTerm: the word of a term is whole, and the term comes back.
func expectTerm(t *testing.T, h *Heap, w uint64, want api.Term) {
	t.Helper()
	got, ok := h.Get(w)
	if term.Nodes(want) > api.MaxTerm {
		return
	}
	if !h.Good(w) || !ok || !term.Same(got, taken(want)) {
		t.Fatalf("Get of Put of %.300s: %.300s", fmt.Sprint(want), fmt.Sprint(got))
	}
}

// taken is a term of which each number that may not be is 0, and nothing stands where it plays no part.
func taken(x api.Term) api.Term {
	out := api.Term{Kind: x.Kind, S: x.S, N: x.N}
	if num.Check(x.I) {
		out.I = x.I
	}
	if x.Kind == api.Cons || x.Kind == api.Tuple || x.Kind == api.Fun {
		for _, k := range x.K {
			out.K = append(out.K, taken(k))
		}
	}
	return out
}

// TestRoom: as many words as Words says are enough, and one less is not.
func TestRoom(t *testing.T) {
	var d dice
	for range 3000 {
		x := d.term(4, 1<<40)
		n := term.Words(x)
		before := d.below(3)
		for less := range min(n, 4) {
			h := New(before + n - less)
			h.A.Alloc(before)
			was := told(h)
			got := put(h, x)
			check(t, "room", got.ok, less == 0)
			if less > 0 {
				check(t, "no room", got, answer{})
				check(t, "nothing used, no atom numbered", told(h), was)
			}
		}
	}
}

func TestPutRefused(t *testing.T) {
	l := []api.Term{fun(-1), fun(math.MinInt, empty()), cons(), cons(empty()), cons(empty(), empty(), empty()), match("a", 0), match("", 0), catch(0)}
	for _, kind := range []int{0, -1, 10, 11, math.MaxInt, math.MinInt, 1<<32 + api.Nil} {
		l = append(l, other(kind))
	}
	for _, bad := range l {
		for _, x := range []api.Term{bad, tuple(atom("a"), bad), cons(atom("a"), bad), cons(bad, atom("a")), fun(0, atom("a"), bad), tuple(tuple(in(1)), cons(bin("abc"), fun(3, bad))), tuple(bad, atom("a"))} {
			h := New(99)
			was := told(h)
			check(t, "refused", put(h, x), answer{})
			check(t, "nothing used, no atom numbered", told(h), was)
		}
	}
}

// TestOthersParts: the K of what is made of nothing plays no part, but takes room.
func TestOthersParts(t *testing.T) {
	for _, x := range []api.Term{in(5), atom("a"), empty(), bin("abc"), raw(false, 1, 2, 3)} {
		bare := term.Words(x)
		x.K = []api.Term{fun(-1, atom("b")), match("", 3), cons(atom("c")), other(0)}
		n := term.Words(x)
		h := New(n)
		got := put(h, x)
		check(t, "there is room", got.ok, true)
		check(t, "used", h.A.Used(), bare)
		names := h.Atom("z")>>4 - 1
		check(t, "atoms", names == 1, x.Kind == api.Atom)
		expectTerm(t, h, got.w, api.Term{Kind: x.Kind, I: x.I, S: x.S})
		check(t, "a word less", put(New(n-1), x), answer{})
	}
}

// TestDeep: what has room is put, and what has none is told, however deep it lies.
func TestDeep(t *testing.T) {
	for _, x := range []api.Term{
		term.List(times(api.MaxHeap/2, in(1)), empty()),
		within(api.MaxHeap/2, empty()),
		within(api.MaxHeap/2-1, tuple(atom("a"))),
		tuple(times(api.MaxHeap-1, in(-1))...),
	} {
		m := second{size: api.MaxHeap}
		h := New(api.MaxHeap)
		check(t, "deep", put(h, x), m.put(x))
		check(t, "deep", slices.Equal(h.A.Words(), m.words), true)
		check(t, "all used", h.A.Used(), api.MaxHeap)
		check(t, "one more", put(New(api.MaxHeap), cons(x, empty())), answer{})
	}
	deep := within(1<<20, empty())
	check(t, "a tuple", put(New(api.MaxHeap), deep), answer{})
	check(t, "a fun", put(New(api.MaxHeap), fun(1, deep)), answer{})
	check(t, "a cons", put(New(api.MaxHeap), cons(deep)), answer{})
	flat := api.Term{Kind: api.Int}
	for range 1 << 20 {
		flat = api.Term{Kind: api.Int, I: num.Of(3), K: []api.Term{flat}}
	}
	check(t, "what plays no part", put(New(0), flat), answer{51, true})
	check(t, "of another kind", put(New(0), api.Term{Kind: 10, K: flat.K}), answer{})
}

// TestSmall: what has room in a word takes no other.
func TestSmall(t *testing.T) {
	for _, v := range []int{0, 1, -1, 1<<59 - 1, -1 << 59, 1 << 58, -1 << 58} {
		w := uint64(v)<<4 + 3
		check(t, "Put", put(New(0), in(v)), answer{w, true})
		check(t, "Number", number(New(0), num.Of(v)), answer{w, true})
	}
	for _, v := range []int{1 << 59, -1<<59 - 1, math.MaxInt, math.MinInt} {
		for size := range 4 {
			m := second{size: size}
			want := m.put(in(v))
			check(t, "has room", want.ok, size == 3)
			check(t, "Put", put(New(size), in(v)), want)
			h := New(size)
			check(t, "Number", number(h, num.Of(v)), want)
			check(t, "the words", told(h), m.told())
		}
	}
}

// TestNumber: a number as Put has it, but none that may not be.
func TestNumber(t *testing.T) {
	var d dice
	for range 3000 {
		n := d.number()
		m := second{size: d.below(20)}
		h := New(m.size)
		want := answer{}
		if num.Check(n) {
			want = m.put(api.Term{Kind: api.Int, I: n})
		}
		check(t, fmt.Sprint(n), number(h, n), want)
		check(t, fmt.Sprint(n), told(h), m.told())
	}
	for _, n := range []api.Num{{Neg: true}, {L: []uint32{0}}, {L: []uint32{5, 0}}, {Neg: true, L: []uint32{0}}, {L: slices.Repeat([]uint32{1}, 13)}} {
		h := New(99)
		check(t, "may not be", number(h, n), answer{})
		check(t, "used", h.A.Used(), 0)
		check(t, "Put takes it as 0", put(h, api.Term{Kind: api.Int, I: n}), answer{3, true})
	}
	h := New(13)
	check(t, "the greatest", number(h, api.Num{Neg: true, L: slices.Repeat([]uint32{math.MaxUint32}, 12)}), answer{2, true})
	check(t, "its head", h.A.Word(0), 12<<6+3<<2)
	check(t, "its top", h.A.Word(12), math.MaxUint32)
}

// TestBytes: of any length, as Put has a Bin.
func TestBytes(t *testing.T) {
	var d dice
	most := (api.MaxHeap - 2) * 8
	for _, n := range []int{0, 1, 2, 7, 8, 9, 15, 16, 17, 399, 400, 401, 1 << 12, most - 1, most, most + 1, 1 << 20} {
		b := make([]byte, n)
		for i := range b {
			b[i] = byte(d.word())
		}
		m := second{size: api.MaxHeap}
		want := m.put(bin(string(b)))
		check(t, "has room", want.ok, n <= most)
		h := New(api.MaxHeap)
		check(t, "Bytes", bytes(h, b), want)
		check(t, "the words", slices.Equal(h.A.Words(), m.words), true)
		got, ok := h.Get(2)
		check(t, "got back", ok && got.S == string(b), n <= most)
		check(t, "a word less", bytes(New(1+(n+7)/8), b), answer{})
		check(t, "Put likewise", put(New(api.MaxHeap), bin(string(b))), want)
	}
	check(t, "none", bytes(New(2), nil), answer{2, true})
}

// TestOrder: what a term is made of comes first, in order.
func TestOrder(t *testing.T) {
	h := New(99)
	x := fun(7, tuple(atom("a"), bin("x")), cons(tuple(atom("b")), cons(atom("a"), atom("c"))))
	check(t, "the fun", put(h, x), answer{12*4 + 2, true})
	words := []uint64{
		2<<6 + 4<<2, 1, 0x78 << 56, // 0: x
		2<<6 + 1<<2, 1<<4 + 7, 2, // 3: {a, x}
		1<<6 + 1<<2, 2<<4 + 7, // 6: {b}
		1<<4 + 7, 3<<4 + 7, // 8: [a | c]
		6*4 + 2, 8*4 + 1, // 10: [{b} | 8]
		3<<6 + 6<<2, 7<<4 + 3, 3*4 + 2, 10*4 + 1,
	}
	check(t, "words", fmt.Sprint(h.A.Words()), fmt.Sprint(words))
}

// TestFunNumber: a number that is too great for a small integer is cut to one.
func TestFunNumber(t *testing.T) {
	for _, n := range []int{1 << 59, math.MaxInt} {
		h := New(2)
		check(t, "Put", put(h, fun(n)), answer{2, true})
		check(t, "its number", h.A.Word(1), uint64(1<<59-1)<<4+3)
	}
}

// R3

func TestNothingKept(t *testing.T) {
	h := New(99)
	b := []byte("abc")
	l := []uint32{1, 2, 3}
	k := []api.Term{{Kind: api.Int, I: api.Num{L: l}}, atom("a")}
	h.Bytes(b)
	h.Number(api.Num{L: l})
	h.Put(tuple(k...))
	check(t, "not changed", fmt.Sprint(b, l), "[97 98 99] [1 2 3]")
	check(t, "not changed", term.Same(tuple(k...), tuple(raw(false, 1, 2, 3), atom("a"))), true)
	was := told(h)
	b[0], l[0], k[0], k[1] = 'x', 9, empty(), empty()
	check(t, "not kept", told(h), was)
}

func TestNewMemory(t *testing.T) {
	h := New(99)
	cell := cons(raw(false, 1, 2, 3), empty())
	one, _ := h.Put(cell)
	at, _ := h.A.Alloc(4)
	for i, w := range []uint64{3<<6 + 1<<2, one, one, 19} {
		h.A.Set(at+i, w)
	}
	w := uint64(at)*4 + 2
	want := tuple(cell, cell, in(1))
	for range 2 {
		got, ok := h.Get(w)
		if !ok || !term.Same(got, want) {
			t.Fatal(got)
		}
		spoil(got.K)
		got, _ = h.Get(w)
		spoil(got.K[0].K[0].I.L)
		spoil(got.K[1].K)
		spoil(got.K)
	}
}

// spoil writes over all that a list has, its spare room too.
func spoil[T any](l []T) {
	clear(l[:cap(l)])
}

// P12.3, P12.4

// expectGet: Get and Good of a word are as the chapter says.
func expectGet(t *testing.T, m *second, h *Heap, w uint64) {
	t.Helper()
	text := fmt.Sprintf("of %#x in %#x", w, m.words)
	want, there := m.get(w)
	got, ok := h.Get(w)
	if ok != there || !term.Same(got, want) {
		t.Fatalf("Get %.900s: %.300s %t, not %.300s %t", text, fmt.Sprint(got), ok, fmt.Sprint(want), there)
	}
	if !ok && fmt.Sprint(got) != fmt.Sprint(api.Term{}) {
		t.Fatalf("Get %.900s: %v beside a false", text, got)
	}
	check(t, "Good "+text, h.Good(w), m.good(w))
}

// someWord is a word that may stand in so many words.
func (d *dice) someWord(n int) uint64 {
	place := uint64(d.below(n + 2))
	switch d.below(9) {
	case 0:
		return uint64(d.below(70))
	case 1:
		return place*4 + 1
	case 2, 3:
		return place*4 + 2
	case 4:
		return uint64(d.below(4))<<6 + uint64(d.below(9))<<2
	case 5:
		return pick[uint64](d, 0, 1, 7, 8, 9, 1<<32-1, 1<<32, 1<<63, math.MaxUint64, math.MaxUint64-7, 1<<32+1, 1<<61, 1<<58+4)
	}
	return pick[uint64](d, 3, 19, 7<<4+3, math.MaxUint64-12, 7, 1<<4+7, 2<<4+7, 3<<4+7, 1<<44+7, 11, 16+11, 15, 5<<4+15, math.MaxUint64)
}

// TestWords: of words that are thrown, each word of them and each place.
func TestWords(t *testing.T) {
	var d dice
	for range 15000 {
		n := d.below(9)
		m := second{size: n + d.below(3), names: []string{"a", "b"}}
		for range n {
			m.words = append(m.words, d.someWord(n))
		}
		h := m.of()
		for w := range uint64(4 * (n + 3)) {
			expectGet(t, &m, h, w)
		}
		expectGet(t, &m, h, d.someWord(n))
		expectGet(t, &m, h, d.word())
	}
}

// TestSpoilt: words of terms and of a match, one of them another than it was.
func TestSpoilt(t *testing.T) {
	var d dice
	for range 1500 {
		m := second{size: 300, names: []string{"a", "b"}}
		for range 3 {
			m.put(d.term(3, 1<<40))
		}
		m.box(5, []uint64{m.put(bin(d.bytes())).w, uint64(d.below(10))})
		n := len(m.words)
		if at := d.below(2 * n); at < n {
			m.words[at] = pick(&d, d.someWord(n), m.words[at]+64, m.words[at]-64, m.words[at]+1, m.words[at]-1, m.words[at]^4)
		}
		h := m.of()
		for w := range uint64(4 * (n + 1)) {
			expectGet(t, &m, h, w)
		}
	}
}

// TestFar: places that no heap has.
func TestFar(t *testing.T) {
	m := second{size: 9, words: []uint64{19, 11}}
	h := m.of()
	for _, at := range []uint64{2, 3, 9, 10, api.MaxHeap, 1 << 31, 1 << 32, 1 << 40, 1<<40 + 1, 1<<62 - 1, 1 << 61} {
		for tag := range uint64(4) {
			expectGet(t, &m, h, at<<2+tag)
		}
	}
	expectGet(t, &m, h, 1)
	expectGet(t, &m, h, 5)
}

// TestObjects: a box of the first word is no term; whether it is good hangs on the first word alone, and how many there are.
func TestObjects(t *testing.T) {
	limbs := slices.Repeat([]uint64{1}, 13)
	for i, x := range []struct {
		good  bool
		words []uint64
	}{
		{true, []uint64{2 << 2}}, {true, []uint64{3 << 2}}, {true, []uint64{1<<6 + 2<<2, 0}}, {true, []uint64{1<<6 + 3<<2, 0}}, {true, []uint64{2<<6 + 2<<2, 1, 0}},
		{true, []uint64{1<<6 + 2<<2, 1 << 32}}, {true, []uint64{2<<6 + 2<<2, 1 << 32, 1}}, {true, []uint64{2<<6 + 2<<2, math.MaxUint64, 1}},
		{true, append([]uint64{13<<6 + 2<<2}, limbs...)}, {true, append([]uint64{13<<6 + 3<<2}, limbs...)},
		{true, []uint64{4 << 2}}, {true, []uint64{4 << 2, 0}}, {true, []uint64{1<<6 + 4<<2, 1}}, {true, []uint64{1<<6 + 4<<2, math.MaxUint64}}, {true, []uint64{1<<6 + 4<<2, 1 << 63}},
		{true, []uint64{2<<6 + 4<<2, 0, 0}}, {true, []uint64{2<<6 + 4<<2, 9, 0}}, {true, []uint64{3<<6 + 4<<2, 8, 0, 0}}, {true, []uint64{3<<6 + 4<<2, 17, 0, 0}}, {true, []uint64{2<<6 + 4<<2, 1<<61 + 8, 0}},
		{true, []uint64{5 << 2, 14, 0, 1<<6 + 4<<2, 0}}, {true, []uint64{1<<6 + 5<<2, 14, 0, 1<<6 + 4<<2, 0}}, {true, []uint64{3<<6 + 5<<2, 18, 0, 0, 1<<6 + 4<<2, 0}},
		{true, []uint64{2<<6 + 5<<2, 14, 1, 1<<6 + 4<<2, 0}}, {true, []uint64{2<<6 + 5<<2, 14, math.MaxUint64, 1<<6 + 4<<2, 0}}, {true, []uint64{2<<6 + 5<<2, 14, 3, 1<<6 + 4<<2, 0}},
		{true, []uint64{2<<6 + 5<<2, 13, 0, 1<<6 + 4<<2, 0}}, {true, []uint64{2<<6 + 5<<2, 13, 0, 19, 11}}, {true, []uint64{2<<6 + 5<<2, 12, 0, 1<<6 + 4<<2, 0}}, {true, []uint64{2<<6 + 5<<2, 15, 0, 1<<6 + 4<<2, 0}},
		{true, []uint64{2<<6 + 5<<2, 14, 0, 1<<6 + 4<<2, 1}}, {true, []uint64{2<<6 + 5<<2, 14, 0, 2<<6 + 4<<2, 1}}, {true, []uint64{2<<6 + 5<<2, 14, 0, 0<<6 + 1<<2}}, {true, []uint64{2<<6 + 5<<2, 2, 0}}, {true, []uint64{2<<6 + 5<<2, 14, 0}},
		{true, []uint64{6 << 2, 3}}, {true, []uint64{1<<6 + 6<<2, 11}}, {true, []uint64{1<<6 + 6<<2, 7}}, {true, []uint64{1<<6 + 6<<2, 1 << 63 >> 4 << 4}}, {true, []uint64{1<<6 + 6<<2, 1<<63 + 3}}, {true, []uint64{1<<6 + 6<<2, math.MaxUint64 - 12}}, {true, []uint64{2<<6 + 6<<2, 3, 0}},
		{true, []uint64{1<<6 + 1<<2, 1 << 2}}, {true, []uint64{1<<6 + 1<<2, 16 + 7}}, {true, []uint64{1<<6 + 1<<2, 2}}, {true, []uint64{2<<6 + 1<<2, 19, 9}},
		{false, []uint64{0}}, {false, []uint64{1 << 6, 19}}, {false, []uint64{7 << 2}}, {false, []uint64{1<<6 + 7<<2, 19}}, {false, []uint64{8 << 2}}, {false, []uint64{15 << 2}}, {false, []uint64{19, 11}}, {false, []uint64{1<<6 + 1<<2}}, {false, []uint64{2<<6 + 4<<2, 3}}, {false, []uint64{1<<46 + 1<<2, 19}}, {false, []uint64{1<<63 + 1<<2, 19}},
	} {
		h := heapOf(x.words...)
		got, ok := h.Get(2)
		if ok || !term.Same(got, api.Term{}) || h.Good(2) != x.good {
			t.Error(i, got, ok, h.Good(2))
		}
		expectGet(t, &second{size: len(x.words), words: x.words}, h, 2)
	}
}

// TestMatch: its binary's bytes, each place in them, and the end of them.
func TestMatch(t *testing.T) {
	for n := range 20 {
		for place := range uint64(22) {
			m := second{size: 9}
			box := m.put(bin(strings.Repeat("m", n))).w
			w := m.box(5, []uint64{box, place})
			h := m.of()
			got, ok := h.Get(w)
			check(t, "is one", ok, place <= uint64(n))
			if ok {
				check(t, "the match", term.Same(got, match(strings.Repeat("m", n), int(place))), true)
			}
		}
	}
}

// TestMatchOfOthers: a match of an object that has what a binary has, but another head.
func TestMatchOfOthers(t *testing.T) {
	for kind := range uint64(16) {
		h := heapOf(2<<6+5<<2, 3*4+2, 1, 2<<6+kind<<2, 5, 0x61<<56)
		_, ok := h.Get(2)
		check(t, "is one", ok, kind == 4)
	}
}

// TestNodes: a term of as many nodes as there may be, and of one more.
func TestNodes(t *testing.T) {
	for _, x := range []api.Term{
		term.List(times(999, in(1)), empty()),
		term.List(times(998, in(1)), tuple(empty(), empty(), empty())),
		term.List(times(999, in(1)), tuple(empty())),
		term.List(times(1000, in(1)), empty()),
		term.List(times(999, in(1)), tuple(empty(), empty())),
		within(1999, empty()), within(2000, empty()),
		tuple(times(1999, bin(""))...), tuple(times(2000, bin(""))...),
		fun(0, times(1999, raw(false, 1, 2, 3))...), fun(0, times(2000, raw(false, 1, 2, 3))...),
		tuple(tuple(times(1000, empty())...), tuple(times(997, empty())...)),
		tuple(tuple(times(1000, empty())...), tuple(times(998, empty())...)),
	} {
		h := New(api.MaxHeap)
		w, _ := h.Put(x)
		got, ok := h.Get(w)
		check(t, "nodes", ok, term.Nodes(x) <= api.MaxTerm)
		check(t, "the term", term.Same(got, x), ok)
		check(t, "Good", h.Good(w), true)
	}
	h := heapOf(slices.Concat([]uint64{1999<<6 + 1<<2}, slices.Repeat([]uint64{2001*4 + 2}, 1999), []uint64{0, 2<<6 + 5<<2, 2004*4 + 2, 0, 1<<6 + 4<<2, 0})...)
	got, ok := h.Get(2)
	check(t, "a match is one node", ok && len(got.K) == 1999, true)
}

// TestWithoutEnd: words that have themselves in them are no term.
func TestWithoutEnd(t *testing.T) {
	for _, words := range [][]uint64{{19, 1}, {1, 11}, {1, 1}, {1<<6 + 1<<2, 2}, {2<<6 + 1<<2, 2, 2}, {2<<6 + 6<<2, 3, 2}, {3<<6 + 6<<2, 3, 2, 2}, {5, 5, 1, 1}} {
		h := heapOf(words...)
		for _, w := range []uint64{1, 2, 5} {
			_, ok := h.Get(w)
			check(t, fmt.Sprint(words), ok, false)
		}
	}
	wide := slices.Repeat([]uint64{2}, api.MaxHeap)
	wide[0] = (api.MaxHeap-1)<<6 + 1<<2
	_, ok := heapOf(wide...).Get(2)
	check(t, "a wide one", ok, false)
}

// TestHeads: no head is a term, nor good.
func TestHeads(t *testing.T) {
	h := heapOf(1<<2, 0)
	for _, w := range []uint64{0, 4, 64, 1<<6 + 1<<2, 7 << 2, 15 << 2, 1 << 63, math.MaxUint64 - 3} {
		got, ok := h.Get(w)
		check(t, "a head", ok || got.Kind != 0 || h.Good(w), false)
	}
}

// P12.5

// TestWhole: whatever is put into one heap comes back, and takes as many words as Words says.
func TestWhole(t *testing.T) {
	var d dice
	h := New(api.MaxHeap)
	var all []api.Term
	var words []uint64
	for h.A.Used() < api.MaxHeap-500 {
		x := taken(d.term(5, 1<<40))
		used := h.A.Used()
		w, ok := h.Put(x)
		check(t, "room", ok, true)
		check(t, "words", h.A.Used()-used, term.Words(x))
		all, words = append(all, x), append(words, w)
	}
	for i, x := range all {
		expectTerm(t, h, words[i], x)
	}
}
