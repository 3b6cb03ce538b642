package heap

import (
	"math"

	"relict/api"
	"relict/num"
	"relict/word"
)

// matchWords is how many words a match has behind its head.
const matchWords = 2

// reader makes a term of words. It counts the nodes that are left, since words may have themselves in them.
type reader struct {
	h    *Heap
	left int
}

// Get is the term of a word.
func (h *Heap) Get(w uint64) (api.Term, bool) {
	r := reader{h: h, left: api.MaxTerm}
	t, ok := r.term(w)
	if !ok {
		return api.Term{}, false
	}
	return t, true
}

// term is the term of a word; beside a false it may be anything.
func (r *reader) term(w uint64) (api.Term, bool) {
	if r.left == 0 {
		return api.Term{}, false
	}
	r.left--
	switch {
	case word.Tag(w) == word.Now:
		return r.h.alone(w)
	case !r.h.stands(w):
		return api.Term{}, false
	case word.Tag(w) == word.List:
		ends, ok := r.terms(word.At(w), cellWords)
		return api.Term{Kind: api.Cons, K: ends}, ok
	}
	return r.boxed(w)
}

// terms is the terms of n words, from a place on.
func (r *reader) terms(from, n int) ([]api.Term, bool) {
	var out []api.Term
	for i := range n {
		t, ok := r.term(r.h.A.Word(from + i))
		if !ok {
			return nil, false
		}
		out = append(out, t)
	}
	return out, true
}

// boxed is the term of a box whose object stands.
func (r *reader) boxed(w uint64) (t api.Term, ok bool) {
	kind, size, from := r.h.object(w)
	switch kind {
	case tupleHead:
		t.Kind = api.Tuple
		t.K, ok = r.terms(from, size)
	case belowHead:
		t.I.Neg = true
		fallthrough
	case numberHead:
		t.Kind = api.Int
		t.I.L, ok = r.h.limbs(from, size)
	case binHead:
		t.Kind = api.Bin
		t.S, ok = r.h.binary(from, size)
	case matchHead:
		t.Kind = api.Match
		t.S, t.N, ok = r.h.match(from, size)
	case funHead:
		t.Kind = api.Fun
		if t.N, ok = r.h.funNumber(from, size); ok {
			t.K, ok = r.terms(from+1, size-1)
		}
	}
	return t, ok
}

// object is what the head says that a box points to, and the place behind it.
func (h *Heap) object(w uint64) (kind, size, from int) {
	at := word.At(w)
	kind, size, _ = word.HeadOf(h.A.Word(at))
	return kind, size, at + 1
}

// alone is the term of a word that is what it is by itself.
func (h *Heap) alone(w uint64) (api.Term, bool) {
	if v, ok := word.IntOf(w); ok {
		return api.Term{Kind: api.Int, I: num.Of(v)}, true
	}
	if n, ok := word.IsAtom(w); ok {
		name, named := h.Name(n)
		return api.Term{Kind: api.Atom, S: name}, named
	}
	if l, ok := word.IsCatch(w); ok {
		return api.Term{Kind: api.Catch, N: l}, true
	}
	return api.Term{Kind: api.Nil}, w == word.NilWord
}

// limbs is the limbs of a number.
func (h *Heap) limbs(from, n int) ([]uint32, bool) {
	if n < 1 || n > api.MaxLimbs || h.A.Word(from+n-1) == 0 {
		return nil, false
	}
	var out []uint32
	for i := range n {
		w := h.A.Word(from + i)
		if w > math.MaxUint32 {
			return nil, false
		}
		out = append(out, uint32(w))
	}
	return out, true
}

// binary is the bytes of a binary; in its last word alone there may be room for more.
func (h *Heap) binary(from, size int) (string, bool) {
	if size < 1 {
		return "", false
	}
	n, room := h.A.Word(from), uint64(size-1)*wordBytes
	if n > room || room-n >= wordBytes {
		return "", false
	}
	out := make([]byte, n)
	for i := range out {
		out[i] = byte(h.A.Word(from+1+i/wordBytes) >> below(i))
	}
	return string(out), true
}

// match is the bytes of a match's binary, and its place in them.
func (h *Heap) match(from, size int) (string, int, bool) {
	if size != matchWords {
		return "", 0, false
	}
	s, ok := h.boxedBinary(h.A.Word(from))
	place := h.A.Word(from + 1)
	return s, int(place), ok && place <= uint64(len(s))
}

// boxedBinary is the bytes of a word that is the box of a binary; a list is none, since a cell has no head.
func (h *Heap) boxedBinary(w uint64) (string, bool) {
	kind, size, from := h.object(w)
	if kind != binHead || !h.stands(w) {
		return "", false
	}
	return h.binary(from, size)
}

// funNumber is the number of a fun.
func (h *Heap) funNumber(from, size int) (int, bool) {
	n, ok := word.IntOf(h.A.Word(from))
	return n, ok && n >= 0 && size > 0
}
