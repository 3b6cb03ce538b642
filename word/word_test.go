package word

import (
	"fmt"
	"math"
	"math/big"
	"strconv"
	"testing"
)

// dice throws the same words at every run.
type dice uint64

func (d *dice) word() uint64 {
	*d = *d*6364136223846793005 + 1442695040888963407
	w := uint64(*d)
	return w ^ w>>31
}

// numbers are those around each power of 2, above 0 and below, and some others.
func numbers() []int {
	l := []int{math.MaxInt, math.MinInt}
	for k := range 63 {
		for i := -2; i <= 2; i++ {
			l = append(l, 1<<k+i, -(1<<k)+i)
		}
	}
	d := dice(1)
	for k := range 64 {
		l = append(l, int(d.word())>>k)
	}
	return l
}

// words are those with a bit or two in each place, all but these, each lowest byte below them, and some others.
func words() []uint64 {
	var l []uint64
	for k := range 64 {
		for j := range 64 {
			w := uint64(1)<<k | uint64(1)<<j
			l = append(l, w, ^w)
		}
	}
	for low := range uint64(256) {
		for k := 8; k <= 64; k++ {
			l = append(l, uint64(1)<<k|low, -(uint64(1)<<k)|low)
		}
	}
	d := dice(2)
	for k := range 20000 {
		l = append(l, d.word()>>(k%64))
	}
	return l
}

// within is n, cut to from least to most.
func within(n, least, most int) int {
	if n < least {
		return least
	}
	if n > most {
		return most
	}
	return n
}

const most = 1 << 40

// ofBits is the word of these digits.
func ofBits(form string, l ...any) uint64 {
	w, err := strconv.ParseUint(fmt.Sprintf(form, l...), 2, 64)
	if err != nil {
		panic(err)
	}
	return w
}

// lowBits are the lowest digits of a number, one below 0 too.
func lowBits(n, many int) string {
	whole := big.NewInt(1 << many)
	return fmt.Sprintf("%0*b", many, new(big.Int).Mod(big.NewInt(int64(n)), whole))
}

// told is all that is told of a word.
type told struct {
	tag, at, kind, size    int
	n, atom, label         int
	isInt, isAtom, isCatch bool
	isHead                 bool
}

func tellAll(w uint64) told {
	x := told{tag: Tag(w), at: At(w)}
	x.n, x.isInt = IntOf(w)
	x.atom, x.isAtom = IsAtom(w)
	x.label, x.isCatch = IsCatch(w)
	x.kind, x.size, x.isHead = HeadOf(w)
	return x
}

// byWords is what is to be told of a word, by the words of the chapter.
func byWords(w uint64) told {
	digits := fmt.Sprintf("%064b", w)
	part := func(from, to int) int {
		n, err := strconv.ParseInt(digits[from:to], 2, 64)
		if err != nil {
			panic(err)
		}
		return int(n)
	}
	x := told{tag: part(62, 64), at: -1}
	switch digits[62:] {
	case "00":
		x.kind, x.size, x.isHead = part(58, 62), part(0, 58), true
	case "01", "10":
		x.at = part(0, 62)
	case "11":
		switch digits[60:62] {
		case "00":
			x.n, x.isInt = part(0, 60), true
			if digits[0] == '1' {
				x.n -= 1 << 60
			}
		case "01":
			x.atom, x.isAtom = part(0, 60), true
		case "11":
			x.label, x.isCatch = part(0, 60), true
		}
	}
	return x
}

func check[T comparable](t *testing.T, what string, got, want T) {
	t.Helper()
	if got != want {
		t.Fatalf("%s: %v, not %v", what, got, want)
	}
}

// checkMade holds a word against its digits, and what is told of it against what it was made of (P10.3).
func checkMade(t *testing.T, what string, got, want uint64, of told) {
	t.Helper()
	check(t, what, got, want)
	check(t, what+", told", tellAll(got), of)
}

func TestExamples(t *testing.T) {
	check(t, "Small(5)", Small(5), 83)
	check(t, "NilWord", NilWord, 11)
	check(t, "NilWord's digits", uint64(NilWord), ofBits("%060b1011", 0))
}

// TestConstants: they are 1, 2, 3 and 11, and go where any number of theirs goes.
func TestConstants(t *testing.T) {
	const list, box, now, null uint8 = List, Box, Now, NilWord
	check(t, "the constants", [4]uint8{list, box, now, null}, [4]uint8{1, 2, 3, 11})
	check(t, "nil, told", tellAll(NilWord), told{tag: 3, at: -1})
	// Nothing else is nil by what is told, but for what stands above it.
	check(t, "above nil, told", tellAll(1<<4|NilWord), told{tag: 3, at: -1})
}

func TestTellByWords(t *testing.T) {
	for _, w := range words() {
		check(t, fmt.Sprintf("%064b", w), tellAll(w), byWords(w))
	}
}

func TestMakeByWords(t *testing.T) {
	sixty := new(big.Int).Lsh(big.NewInt(1), 60)
	for _, n := range numbers() {
		v := within(n, -1<<59, 1<<59-1)
		up := big.NewInt(int64(v))
		if v < 0 {
			up.Add(up, sixty)
		}
		checkMade(t, fmt.Sprint("Small ", n), Small(n), ofBits("%b0011", up), told{tag: 3, at: -1, n: v, isInt: true})
		c := within(n, 0, most)
		checkMade(t, fmt.Sprint("AtomOf ", n), AtomOf(n), ofBits("%b0111", c), told{tag: 3, at: -1, atom: c, isAtom: true})
		checkMade(t, fmt.Sprint("Catch ", n), Catch(n), ofBits("%b1111", c), told{tag: 3, at: -1, label: c, isCatch: true})
	}
}

// pairs are all numbers beside those of a short list, either way round.
func pairs(yield func(a, b int) bool) {
	short := []int{0, 1, 2, 3, 4, 5, 6, 7, 8, 12, 15, 16, 17, 40, -1, -2, -3, -4, -5, -15, -16, -17, most - 1, most, most + 1, math.MaxInt, math.MinInt}
	for _, a := range numbers() {
		for _, b := range short {
			if !yield(a, b) || !yield(b, a) {
				return
			}
		}
	}
}

func TestPointerByWords(t *testing.T) {
	for tag, at := range pairs {
		c, digits := within(at, 0, most), lowBits(tag, 2)
		want := ofBits("%b%s", c, digits)
		what := fmt.Sprint("Pointer ", tag, " ", at)
		switch digits {
		case "01":
			checkMade(t, what, Pointer(tag, at), want, told{tag: 1, at: c})
		case "10":
			checkMade(t, what, Pointer(tag, at), want, told{tag: 2, at: c})
		default:
			// A tag that is no pointer's is taken: what is told is what the digits say.
			checkMade(t, what, Pointer(tag, at), want, byWords(want))
		}
	}
}

func TestHeadByWords(t *testing.T) {
	for kind, size := range pairs {
		c, digits := within(size, 0, most), lowBits(kind, 4)
		k, _ := strconv.ParseInt(digits, 2, 64)
		checkMade(t, fmt.Sprint("Head ", kind, " ", size), Head(kind, size), ofBits("%b%s00", c, digits), told{at: -1, kind: int(k), size: c, isHead: true})
	}
}

// anew is the word made of what is told of it.
func anew(x told) uint64 {
	switch {
	case x.isInt:
		return Small(x.n)
	case x.isAtom:
		return AtomOf(x.atom)
	case x.isCatch:
		return Catch(x.label)
	case x.isHead:
		return Head(x.kind, x.size)
	case x.at >= 0:
		return Pointer(x.tag, x.at)
	}
	return NilWord
}

// TestMadeAnew: what is told of a word that may be made makes it anew (P10.3), and each word is of one kind alone.
func TestMadeAnew(t *testing.T) {
	many := 0
	for _, w := range words() {
		x := tellAll(w)
		kinds := 0
		for _, is := range []bool{x.isInt, x.isAtom, x.isCatch, x.isHead, x.at >= 0} {
			if is {
				kinds++
			}
		}
		isNil := w&15 == 11
		if (kinds == 1) == isNil || kinds > 1 {
			t.Fatalf("%064b: %d kinds", w, kinds)
		}
		if isNil && w != 11 || max(x.atom, x.label, x.at, x.size) > most {
			continue
		}
		many++
		check(t, fmt.Sprintf("%064b anew", w), anew(x), w)
	}
	if many < 10000 {
		t.Fatal("only so many words were made anew:", many)
	}
}

// TestEdges: the edges that the chapter names.
func TestEdges(t *testing.T) {
	for _, x := range []struct {
		what      string
		got, want uint64
	}{
		{"the greatest", Small(1<<59 - 1), 1<<63 - 16 + 3},
		{"above the greatest", Small(1 << 59), 1<<63 - 16 + 3},
		{"the least", Small(-1 << 59), 1<<63 + 3},
		{"below the least", Small(-1<<59 - 1), 1<<63 + 3},
		{"-1", Small(-1), math.MaxUint64 - 12},
		{"0", Small(0), 3},
		{"atom 0", AtomOf(0), 7},
		{"atom -1", AtomOf(-1), 7},
		{"the last atom", AtomOf(1 << 40), 1<<44 + 7},
		{"behind the last atom", AtomOf(1<<40 + 1), 1<<44 + 7},
		{"catch 0", Catch(0), 15},
		{"catch -1", Catch(-1), 15},
		{"the last catch", Catch(1 << 40), 1<<44 + 15},
		{"behind the last catch", Catch(1<<40 + 1), 1<<44 + 15},
		{"the last place", Pointer(List, 1<<40), 1<<42 + 1},
		{"behind the last place", Pointer(Box, 1<<40+1), 1<<42 + 2},
		{"a place below 0", Pointer(Box, -1), 2},
		{"a tag of more bits", Pointer(1<<40|Box, 5), 22},
		{"a tag below 0", Pointer(-3, 5), 21},
		{"the greatest size", Head(1, 1<<40), 1<<46 + 4},
		{"above the greatest size", Head(1, 1<<40+1), 1<<46 + 4},
		{"a size below 0", Head(7, -1), 28},
		{"a kind of more bits", Head(1<<40|6, 2), 152},
		{"a kind below 0", Head(-16, 2), 128},
	} {
		check(t, x.what, x.got, x.want)
	}
}
