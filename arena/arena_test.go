package arena

import (
	"fmt"
	"math"
	"slices"
	"testing"

	"relict/api"
	"relict/word"
)

// dice throws the same numbers at every run.
type dice uint64

func (d *dice) word() uint64 {
	*d = *d*6364136223846793005 + 1442695040888963407
	w := uint64(*d)
	return w ^ w>>31
}

func (d *dice) below(n int) int { return int(d.word() % uint64(n)) }

func check[T comparable](t *testing.T, what string, got, want T) {
	t.Helper()
	if got != want {
		t.Fatalf("%s: %v, not %v", what, got, want)
	}
}

// place is what Alloc answers.
type place struct {
	at int
	ok bool
}

func alloc(a *Arena, n int) place {
	at, ok := a.Alloc(n)
	return place{at, ok}
}

// far are places and numbers of words that no arena has.
var far = []int{-1, -2, math.MinInt, math.MinInt + 1, math.MinInt32, api.MaxHeap + 1, 1 << 32, 1<<32 + 1, 1 << 62, math.MaxInt - 1, math.MaxInt}

// told is what an arena tells of itself, place by place, and asked for words that it has not.
func told(a *Arena) string {
	s := fmt.Sprint(a.Size(), a.Used(), a.Words())
	for at := -2; at <= a.Size()+2; at++ {
		s += fmt.Sprint(" ", a.Word(at), "/", Extent(a, at))
	}
	for _, at := range far {
		s += fmt.Sprint(" ", a.Word(at), "/", Extent(a, at))
	}
	return s
}

// second is an arena by the words of the chapter: how many words there are and are used, and those that were set.
type second struct {
	size, used int
	set        map[int]uint64
}

func (m *second) alloc(n int) place {
	if n < 0 || n > m.size || m.used+n > m.size {
		return place{}
	}
	m.used += n
	return place{m.used - n, true}
}

func (m *second) put(at int, w uint64) {
	if at >= 0 && at < m.used {
		m.set[at] = w
	}
}

func (m *second) words() []uint64 {
	l := []uint64{}
	for at := range m.used {
		l = append(l, m.set[at])
	}
	return l
}

// extent is an object's by the words of the chapter: each of its words must be used.
func (m *second) extent(at int) int {
	if at < 0 || at >= m.used {
		return 0
	}
	n := uint64(2)
	if w := m.set[at]; w%4 == 0 {
		n = 1 + w/64
	}
	if n > uint64(m.used) || at+int(n) > m.used {
		return 0
	}
	return int(n)
}

// told is what an arena of these words must tell.
func (m *second) told() string {
	s := fmt.Sprint(m.size, m.used, m.words())
	for at := -2; at <= m.size+2; at++ {
		s += fmt.Sprint(" ", m.set[at], "/", m.extent(at))
	}
	for range far {
		s += " 0/0"
	}
	return s
}

func TestExample(t *testing.T) {
	a := New(2)
	check(t, "Alloc(2)", alloc(a, 2), place{0, true})
	check(t, "Alloc(1)", alloc(a, 1), place{})
}

// TestSizes: so many words as asked for, cut; none used; all of them may be used, and are 0.
func TestSizes(t *testing.T) {
	for _, x := range [][2]int{
		{0, 0}, {1, 1}, {2, 2}, {3, 3}, {5, 5}, {1000, 1000}, {1025, 1025}, {1 << 15, 1 << 15}, {1<<15 - 1, 1<<15 - 1},
		{1<<15 + 1, 1 << 15}, {1 << 16, 1 << 15}, {1 << 32, 1 << 15}, {1<<32 + 1, 1 << 15}, {math.MaxInt, 1 << 15},
		{-1, 0}, {-1 << 32, 0}, {-1<<32 + 1, 0}, {math.MinInt, 0},
	} {
		what := fmt.Sprint("New ", x[0], ": ")
		a, size := New(x[0]), x[1]
		check(t, what+"size", a.Size(), size)
		check(t, what+"used", a.Used(), 0)
		check(t, what+"words", len(a.Words()), 0)
		check(t, what+"one too many", alloc(a, size+1), place{})
		check(t, what+"all", alloc(a, size), place{0, true})
		check(t, what+"one more", alloc(a, 1), place{})
		check(t, what+"none more", alloc(a, 0), place{size, true})
		check(t, what+"size behind", a.Size(), size)
		check(t, what+"used behind", a.Used(), size)
		if !slices.Equal(a.Words(), make([]uint64, size)) {
			t.Fatal(what, "words that are not 0")
		}
		if size > 0 {
			a.Set(size-1, 7)
			check(t, what+"the last one", a.Word(size-1), 7)
			check(t, what+"behind the last one", a.Word(size), 0)
		}
	}
}

// TestAllocEdges: a number of words that there are not is refused, wherever the arena stands, and changes nothing.
func TestAllocEdges(t *testing.T) {
	for used := range 6 {
		a := New(5)
		check(t, "the first ones", alloc(a, used), place{0, true})
		for at := range used {
			a.Set(at, uint64(at)+9)
		}
		before := told(a)
		for _, n := range append([]int{5 - used + 1, 5 - used + 2, 6, math.MaxInt - used, math.MinInt + used}, far...) {
			check(t, fmt.Sprint("Alloc ", n, " behind ", used), alloc(a, n), place{})
			check(t, fmt.Sprint("behind Alloc ", n), told(a), before)
		}
		check(t, "none", alloc(a, 0), place{used, true})
		check(t, "behind none", told(a), before)
		check(t, "all the others", alloc(a, 5-used), place{used, true})
		check(t, "none at the end", alloc(a, 0), place{5, true})
	}
}

// TestNotUsed: what is not used is 0, is not set, and is 0 once it is used.
func TestNotUsed(t *testing.T) {
	a := New(6)
	alloc(a, 3)
	a.Set(2, 5)
	for _, at := range append([]int{3, 4, 5, 6, 7}, far...) {
		a.Set(at, math.MaxUint64)
		check(t, fmt.Sprint("Word ", at), a.Word(at), 0)
		check(t, fmt.Sprint("Extent ", at), Extent(a, at), 0)
	}
	alloc(a, 3)
	if w := a.Words(); !slices.Equal(w, []uint64{0, 0, 5, 0, 0, 0}) {
		t.Fatal(w)
	}
}

// TestWordsAreNew: what is answered and what is kept share no memory, either way, spare room too.
func TestWordsAreNew(t *testing.T) {
	a := New(8)
	alloc(a, 5)
	for at := range 5 {
		a.Set(at, uint64(at)+1)
	}
	one, two := a.Words(), a.Words()
	before := told(a)
	for _, l := range [][]uint64{one[:cap(one)], append(one, 9, 9, 9)} {
		for i := range l {
			l[i] = 99
		}
	}
	check(t, "behind a change of what was answered", told(a), before)
	a.Set(0, 50)
	alloc(a, 3)
	a.Set(5, 51)
	if !slices.Equal(two, []uint64{1, 2, 3, 4, 5}) {
		t.Fatal("what was answered is changed:", two)
	}
}

// TestBySecond: a long way of calls goes as the words of the chapter say, beside another arena that has nothing to do with it.
func TestBySecond(t *testing.T) {
	d := dice(1)
	for round := range 400 {
		size := d.below(24)
		a, m := New(size), &second{size: size, set: map[int]uint64{}}
		other := New(size)
		alloc(other, size)
		aside := told(other)
		for range 40 {
			what := fmt.Sprint("round ", round)
			switch d.below(3) {
			case 0:
				n := d.below(9) - 1
				check(t, fmt.Sprint(what, ": Alloc ", n), alloc(a, n), m.alloc(n))
			default:
				at, w := d.below(size+4)-2, d.word()
				if d.below(2) == 0 {
					w = word.Head(d.below(16), d.below(size+2))
				}
				a.Set(at, w)
				m.put(at, w)
			}
			check(t, what, told(a), m.told())
		}
		check(t, "the other one", told(other), aside)
	}
}

// filled is an arena of n words, all used, each with that word.
func filled(n int, w uint64) *Arena {
	a := New(n)
	a.Alloc(n)
	for at := range n {
		a.Set(at, w)
	}
	return a
}

// TestExtentOfHeads: of each kind, with what fills the arena just so, and with what does not.
func TestExtentOfHeads(t *testing.T) {
	for kind := range 16 {
		for used := 1; used <= 8; used++ {
			a := filled(used, word.Small(5))
			for at := range used {
				for size := range 12 {
					a.Set(at, word.Head(kind, size))
					want := 1 + size
					if at+want > used {
						want = 0
					}
					check(t, fmt.Sprint("kind ", kind, " size ", size, " at ", at, " of ", used), Extent(a, at), want)
				}
				a.Set(at, word.Small(5))
			}
		}
	}
}

// TestExtentOfGreatHeads: a size that is far above all that there may be reaches beyond.
func TestExtentOfGreatHeads(t *testing.T) {
	a := filled(8, word.NilWord)
	for k := range 58 {
		for _, size := range []uint64{1 << k, 1<<k - 1, 1<<58 - 1<<k, 1<<58 - 1} {
			a.Set(3, size<<6|1<<2)
			want := 0
			if size < 5 {
				want = int(size) + 1
			}
			check(t, fmt.Sprint("size ", size), Extent(a, 3), want)
		}
	}
	a.Set(3, math.MaxUint64-3)
	check(t, "all ones above the tag", Extent(a, 3), 0)
	all := filled(api.MaxHeap, word.NilWord)
	all.Set(0, word.Head(1, api.MaxHeap-1))
	check(t, "the greatest that there is", Extent(all, 0), api.MaxHeap)
	all.Set(0, word.Head(1, api.MaxHeap))
	check(t, "one more", Extent(all, 0), 0)
}

// TestExtentOfCells: what begins with no head is two words, whatever they are; at the last place there are not two.
func TestExtentOfCells(t *testing.T) {
	for _, first := range []uint64{
		word.Small(0), word.Small(-1), word.Small(5), word.NilWord, word.AtomOf(1), word.Catch(2),
		word.Pointer(word.List, 0), word.Pointer(word.Box, 0), word.Pointer(word.List, 1<<40), math.MaxUint64, 1, 2, 3,
	} {
		for _, next := range []uint64{0, word.Head(1, 9), word.Small(1), word.NilWord, math.MaxUint64} {
			for used := 1; used <= 5; used++ {
				a := filled(used, next)
				for at := range used {
					a.Set(at, first)
					want := 2
					if at == used-1 {
						want = 0
					}
					check(t, fmt.Sprintf("%b, %b at %d of %d", first, next, at, used), Extent(a, at), want)
					a.Set(at, next)
				}
			}
		}
	}
}

// TestExtentOfUsed: words that there are, but that are not used, belong to no object.
func TestExtentOfUsed(t *testing.T) {
	a := New(6)
	alloc(a, 1)
	check(t, "a word 0 is a head of size 0", Extent(a, 0), 1)
	a.Set(0, word.Head(1, 2))
	check(t, "two are missing", Extent(a, 0), 0)
	alloc(a, 1)
	check(t, "one is missing", Extent(a, 0), 0)
	alloc(a, 1)
	check(t, "all are used", Extent(a, 0), 3)
	a.Set(2, word.NilWord)
	check(t, "a cell's second is missing", Extent(a, 2), 0)
	alloc(a, 1)
	check(t, "a cell's both are used", Extent(a, 2), 2)
	check(t, "none used", Extent(New(6), 0), 0)
	check(t, "no words", Extent(New(0), 0), 0)
}

// TestExtentLooksOnly: it changes nothing.
func TestExtentLooksOnly(t *testing.T) {
	a := filled(4, word.Head(1, 1))
	before := told(a)
	for at := range 4 {
		Extent(a, at)
	}
	check(t, "behind it", told(a), before)
}
