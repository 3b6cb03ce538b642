package module

import (
	"bytes"
	"encoding/binary"
	"fmt"
	"math"
	"slices"
	"strings"
	"testing"

	"relict/api"
	"relict/code"
	"relict/ext"
	"relict/iff"
	"relict/num"
	"relict/ops"
	"relict/term"
)

func of(tag, n int) api.Arg { return api.Arg{Tag: tag, N: n} }

func list(l ...api.Arg) api.Arg { return api.Arg{Tag: api.TagList, L: l} }

func ins(op int, l ...api.Arg) api.Ins { return api.Ins{Op: op, Args: l} }

func label(n int) api.Ins { return ins(ops.Label, of(api.TagU, n)) }

func info(m, f, a int) api.Ins {
	return ins(ops.FuncInfo, of(api.TagA, m), of(api.TagA, f), of(api.TagU, a))
}

func callExt(n int) api.Ins { return ins(ops.CallExt, of(api.TagU, 0), of(api.TagU, n)) }

func makeFun(n int) api.Ins { return ins(ops.MakeFun, of(api.TagU, n), list(), of(api.TagX, 0)) }

func move(a api.Arg) api.Ins { return ins(ops.Move, a, of(api.TagX, 0)) }

func tuple(l ...api.Arg) api.Ins { return ins(ops.PutTuple, list(l...), of(api.TagX, 0)) }

func selects(l ...api.Arg) api.Ins {
	return ins(ops.Select, of(api.TagX, 0), of(api.TagF, 2), list(l...))
}

var (
	end = ins(ops.End)
	ret = ins(ops.Return)
)

func integer(n int) api.Term { return api.Term{Kind: api.Int, I: num.Of(n)} }

func atom(s string) api.Term { return api.Term{Kind: api.Atom, S: s} }

// names are so many names, each another.
func names(n int) []string {
	var l []string
	for i := range n {
		l = append(l, fmt.Sprint("a", i))
	}
	return l
}

// whole is a module with two rows in each table: three of the atoms.
func whole() api.Module {
	return api.Module{
		Atoms:    []string{"m", "f", "g"},
		Imports:  []api.Import{{M: 3, F: 1, A: 2}, {M: 1, F: 3, A: 15}},
		Exports:  []api.Export{{F: 2, A: 1, L: 2}, {F: 3, A: 15, L: 7}},
		Funs:     []api.Lambda{{A: 1, L: 2, Free: 14}, {A: 15, L: 7, Free: 0}},
		Literals: []api.Term{integer(256), {Kind: api.Tuple, K: []api.Term{atom("q")}}},
		Code:     []api.Ins{label(1), info(1, 2, 1), label(2), callExt(1), makeFun(1), label(7), tuple(of(api.TagL, 1), of(api.TagA, 3)), ret, info(1, 3, 1), end},
	}
}

func sameArg(a, b api.Arg) bool {
	return a.Tag == b.Tag && a.N == b.N && slices.EqualFunc(a.L, b.L, sameArg)
}

func sameIns(a, b api.Ins) bool { return a.Op == b.Op && slices.EqualFunc(a.Args, b.Args, sameArg) }

func same(a, b api.Module) bool {
	return slices.Equal(a.Atoms, b.Atoms) && slices.Equal(a.Imports, b.Imports) && slices.Equal(a.Exports, b.Exports) && slices.Equal(a.Funs, b.Funs) &&
		slices.EqualFunc(a.Literals, b.Literals, term.Same) && slices.EqualFunc(a.Code, b.Code, sameIns)
}

func cloneArgs(l []api.Arg) []api.Arg {
	l = slices.Clone(l)
	for n := range l {
		l[n].L = cloneArgs(l[n].L)
	}
	return l
}

func cloneTerms(l []api.Term) []api.Term {
	l = slices.Clone(l)
	for n := range l {
		l[n].I.L = slices.Clone(l[n].I.L)
		l[n].K = cloneTerms(l[n].K)
	}
	return l
}

func clone(m api.Module) api.Module {
	m.Atoms, m.Imports, m.Exports, m.Funs = slices.Clone(m.Atoms), slices.Clone(m.Imports), slices.Clone(m.Exports), slices.Clone(m.Funs)
	m.Literals, m.Code = cloneTerms(m.Literals), slices.Clone(m.Code)
	for n := range m.Code {
		m.Code[n].Args = cloneArgs(m.Code[n].Args)
	}
	return m
}

// wipe clears all lists of a module, spare room too.
func wipe(m api.Module) {
	for _, i := range m.Code {
		for _, a := range i.Args {
			clear(a.L[:cap(a.L)])
		}
		clear(i.Args[:cap(i.Args)])
	}
	for _, t := range m.Literals {
		clear(t.I.L[:cap(t.I.L)])
		clear(t.K[:cap(t.K)])
	}
	clear(m.Code[:cap(m.Code)])
	clear(m.Literals[:cap(m.Literals)])
	clear(m.Funs[:cap(m.Funs)])
	clear(m.Exports[:cap(m.Exports)])
	clear(m.Imports[:cap(m.Imports)])
	clear(m.Atoms[:cap(m.Atoms)])
}

// dice throws the same modules and bytes at every run.
type dice uint64

func (d *dice) below(n int) int {
	*d = *d*6364136223846793005 + 1442695040888963407
	return int(uint64(*d)>>33) % n
}

func (d *dice) term(deep int) api.Term {
	switch kind := d.below(6); {
	case kind == 0:
		return integer(d.below(1<<30) << d.below(31) >> d.below(60))
	case kind == 1:
		return atom(fmt.Sprint("lit", d.below(100)))
	case kind == 2:
		return api.Term{Kind: api.Bin, S: strings.Repeat("\x00z", d.below(5))}
	case kind == 3 && deep > 0:
		return api.Term{Kind: api.Cons, K: []api.Term{d.term(deep - 1), d.term(deep - 1)}}
	case kind == 4 && deep > 0:
		return api.Term{Kind: api.Tuple, K: []api.Term{d.term(deep - 1), d.term(deep - 1), d.term(deep - 1)}}
	}
	return api.Term{Kind: api.Nil}
}

// operand is one by a letter that names what is there of a module with labels 1 to so many.
func (d *dice) operand(letter byte, m api.Module, labels int) api.Arg {
	switch letter {
	case 'u':
		return of(api.TagU, d.below(20))
	case 'a':
		return of(api.TagA, 1+d.below(len(m.Atoms)))
	case 's':
		return []api.Arg{of(api.TagI, d.below(1000)-500), of(api.TagA, d.below(len(m.Atoms)+1)), of(api.TagL, d.below(len(m.Literals))), of(api.TagX, d.below(16))}[d.below(4)]
	case 'd', 'x':
		return of(api.TagX, d.below(16))
	case 'y':
		return of(api.TagY, d.below(12))
	case 'l', 'f':
		return of(api.TagF, 1+d.below(labels))
	case 'S':
		l := list()
		for range d.below(5) {
			l.L = append(l.L, d.operand('s', m, labels))
		}
		return l
	}
	l := list()
	for n := range d.below(4) {
		l.L = append(l.L, of(api.TagI, n), of(api.TagF, 1+d.below(labels)))
	}
	return l
}

// module is one that may be, with one row at least in each table.
func (d *dice) module() api.Module {
	m := api.Module{Atoms: names(1 + d.below(6))}
	labels := 1 + d.below(6)
	oneAtom := func() int { return 1 + d.below(len(m.Atoms)) }
	for range 1 + d.below(3) {
		m.Imports = append(m.Imports, api.Import{M: oneAtom(), F: oneAtom(), A: d.below(16)})
		m.Literals = append(m.Literals, d.term(3))
		args := d.below(16)
		m.Funs = append(m.Funs, api.Lambda{A: args, L: 1 + d.below(labels), Free: d.below(16 - args)})
	}
	for args := range 1 + d.below(3) {
		m.Exports = append(m.Exports, api.Export{F: oneAtom(), A: args, L: 1 + d.below(labels)})
	}
	for n := range labels {
		m.Code = append(m.Code, label(n+1))
		for range d.below(4) {
			m.Code = append(m.Code, d.instruction(m, labels))
		}
	}
	m.Code = append(m.Code, end)
	return m
}

func (d *dice) instruction(m api.Module, labels int) api.Ins {
	i := ins(4 + d.below(48))
	if d.below(6) == 0 {
		i.Op = ops.FuncInfo
	}
	for _, letter := range []byte(ops.Sig(i.Op)) {
		i.Args = append(i.Args, d.operand(letter, m, labels))
	}
	switch i.Op {
	case ops.CallExt:
		i.Args[1].N = d.below(len(m.Imports))
	case ops.MakeFun:
		i.Args[0].N = d.below(len(m.Funs))
	}
	return i
}

// number is one near some edge.
func (d *dice) number() int {
	return []int{-1, 0, 1, 2, 3, 4, 5, 6, 7, 14, 15, 16, 200, 201, math.MaxInt, math.MinInt}[d.below(16)]
}

// spoil changes one thing of a module.
func (d *dice) spoil(m api.Module) api.Module {
	m = clone(m)
	to := d.number()
	switch d.below(12) {
	case 0:
		*[]*int{&m.Imports[0].M, &m.Imports[0].F, &m.Imports[0].A}[d.below(3)] = to
	case 1:
		*[]*int{&m.Exports[0].F, &m.Exports[0].A, &m.Exports[0].L}[d.below(3)] = to
	case 2:
		*[]*int{&m.Funs[0].A, &m.Funs[0].L, &m.Funs[0].Free}[d.below(3)] = to
	case 3:
		m.Literals[d.below(len(m.Literals))] = []api.Term{{}, atom(""), {Kind: api.Fun}, {Kind: api.Cons}, integer(1)}[d.below(5)]
	case 4:
		m.Atoms[d.below(len(m.Atoms))] = []string{"", "a 1", "a0", "a1", "b", strings.Repeat("x", 41)}[d.below(6)]
	case 5:
		m.Atoms = m.Atoms[1:]
	case 6:
		m.Literals = m.Literals[1:]
	case 7:
		m.Imports = m.Imports[1:]
	case 8:
		m.Funs = m.Funs[1:]
	case 9:
		m.Exports = append(m.Exports, m.Exports[0])
	case 10:
		m.Code = slices.Delete(m.Code, 0, 1)
	case 11:
		i := m.Code[d.below(len(m.Code))]
		if len(i.Args) > 0 {
			i.Args[d.below(len(i.Args))].N = to
		}
	}
	return m
}

// spoilBytes changes, cuts, or adds to bytes.
func (d *dice) spoilBytes(s string) string {
	b := []byte(s)
	at := d.below(len(b) + 1)
	if at == len(b) {
		return s + string(rune(d.below(3)))
	}
	switch d.below(5) {
	case 0:
		b[at] = byte(d.below(256))
	case 1:
		b[at] ^= 1 << d.below(8)
	case 2:
		b = b[:at]
	case 3:
		b = slices.Insert(b, at, byte(d.below(4)))
	case 4:
		b = slices.Delete(b, at, at+1)
	}
	return string(b)
}

// P9.1

// checkByWords is Check by its words.
func checkByWords(m api.Module) api.Errno {
	for _, rows := range []int{len(m.Atoms) - 140, len(m.Imports), len(m.Exports), len(m.Funs), len(m.Literals)} {
		if rows > 60 {
			return api.ErrBig
		}
	}
	for n, s := range m.Atoms {
		if !term.Check(atom(s)) || slices.Index(m.Atoms, s) != n {
			return api.ErrAtom
		}
	}
	if _, errno := code.Put(m.Code); errno != api.OK {
		return errno
	}
	if _, errno := code.Labels(m.Code); errno != api.OK {
		return errno
	}
	if !rowsByWords(m) {
		return api.ErrIndex
	}
	for _, t := range m.Literals {
		if !term.Check(t) {
			return api.ErrBytes
		}
	}
	for _, i := range m.Code {
		if !operandsByWords(m, i, i.Args) {
			return api.ErrIndex
		}
	}
	for n, e := range m.Exports {
		for _, other := range m.Exports[:n] {
			if other.A == e.A && m.Atoms[other.F-1] == m.Atoms[e.F-1] {
				return api.ErrTwice
			}
		}
	}
	return api.OK
}

func rowsByWords(m api.Module) bool {
	isThere := func(l int) bool {
		return slices.ContainsFunc(m.Code, func(i api.Ins) bool { return i.Op == 1 && i.Args[0].N == l })
	}
	for _, i := range m.Imports {
		if i.M <= 0 || i.M > len(m.Atoms) || i.F <= 0 || i.F > len(m.Atoms) || i.A < 0 || i.A > 15 {
			return false
		}
	}
	for _, e := range m.Exports {
		if e.F <= 0 || e.F > len(m.Atoms) || e.A < 0 || e.A > 15 || !isThere(e.L) {
			return false
		}
	}
	for _, f := range m.Funs {
		if f.A < 0 || f.Free < 0 || f.A > 15-f.Free || f.Free > 15 || !isThere(f.L) {
			return false
		}
	}
	return true
}

func operandsByWords(m api.Module, i api.Ins, l []api.Arg) bool {
	for n, a := range l {
		switch {
		case a.Tag == 2 && a.N > len(m.Atoms), a.Tag == 6 && a.N >= len(m.Literals), a.Tag == 7 && !operandsByWords(m, ins(0), a.L):
			return false
		case i.Op == 9 && n == 1 && a.N >= len(m.Imports), i.Op == 44 && n == 0 && a.N >= len(m.Funs):
			return false
		}
	}
	return true
}

func holdCheckAgainstWords(t *testing.T, m api.Module) api.Errno {
	t.Helper()
	errno := Check(m)
	if want := checkByWords(m); errno != want {
		t.Fatalf("%+v: %d, not %d", m, errno, want)
	}
	return errno
}

func TestCheckCounts(t *testing.T) {
	var exports []api.Export
	for n := range 60 {
		exports = append(exports, api.Export{F: 1 + n/16, A: n % 16, L: 7})
	}
	for n, x := range []struct {
		change func(m *api.Module)
		want   api.Errno
	}{
		{func(m *api.Module) {}, api.OK},
		{func(m *api.Module) { m.Atoms = names(200) }, api.OK},
		{func(m *api.Module) { m.Atoms = names(201) }, api.ErrBig},
		{func(m *api.Module) { m.Atoms = make([]string, 201) }, api.ErrBig},
		{func(m *api.Module) { m.Atoms = make([]string, 200) }, api.ErrAtom},
		{func(m *api.Module) { m.Imports = slices.Repeat(m.Imports, 30) }, api.OK},
		{func(m *api.Module) { m.Imports = append(slices.Repeat(m.Imports, 30), m.Imports[0]) }, api.ErrBig},
		{func(m *api.Module) { m.Atoms, m.Exports = names(4), exports }, api.OK},
		{func(m *api.Module) { m.Atoms, m.Exports = names(4), append(exports, exports[0]) }, api.ErrBig},
		{func(m *api.Module) { m.Exports = slices.Repeat(m.Exports, 30) }, api.ErrTwice},
		{func(m *api.Module) { m.Funs = slices.Repeat(m.Funs, 30) }, api.OK},
		{func(m *api.Module) { m.Funs = append(slices.Repeat(m.Funs, 30), m.Funs[0]) }, api.ErrBig},
		{func(m *api.Module) { m.Literals = slices.Repeat(m.Literals, 30) }, api.OK},
		{func(m *api.Module) { m.Literals = append(slices.Repeat(m.Literals, 30), m.Literals[0]) }, api.ErrBig},
		{func(m *api.Module) { m.Imports = make([]api.Import, 61) }, api.ErrBig},
		{func(m *api.Module) { m.Imports = make([]api.Import, 60) }, api.ErrIndex},
		{func(m *api.Module) { m.Code = slices.Insert(m.Code, 0, slices.Repeat([]api.Ins{ret}, 390)...) }, api.OK},
		{func(m *api.Module) { m.Code = slices.Insert(m.Code, 0, slices.Repeat([]api.Ins{ret}, 391)...) }, api.ErrBig},
		{func(m *api.Module) { *m = api.Module{Code: []api.Ins{end}} }, api.OK},
		{func(m *api.Module) { *m = api.Module{} }, api.ErrOp},
	} {
		m := whole()
		x.change(&m)
		if errno := holdCheckAgainstWords(t, m); errno != x.want {
			t.Error(n, errno, x.want)
		}
	}
}

func TestCheckAtoms(t *testing.T) {
	for _, x := range []struct {
		l    []string
		want api.Errno
	}{
		{[]string{"m", "f", "g"}, api.OK},
		{[]string{"!", "~", strings.Repeat("x", 40)}, api.OK},
		{[]string{"m", "f", strings.Repeat("x", 41)}, api.ErrAtom},
		{[]string{"", "f", "g"}, api.ErrAtom},
		{[]string{"m", "f", ""}, api.ErrAtom},
		{[]string{"m", "f ", "g"}, api.ErrAtom},
		{[]string{"m", "f", "g\x7f"}, api.ErrAtom},
		{[]string{"m", "\xc3\xa9", "g"}, api.ErrAtom},
		{[]string{"m", "m", "g"}, api.ErrAtom},
		{[]string{"m", "f", "m"}, api.ErrAtom},
		{[]string{"m", "f", "g", "g"}, api.ErrAtom},
		{[]string{"m", "f", "g", "G"}, api.OK},
		{[]string{"m", "f"}, api.ErrIndex},
	} {
		m := whole()
		m.Atoms = x.l
		if errno := holdCheckAgainstWords(t, m); errno != x.want {
			t.Error(x.l, errno, x.want)
		}
	}
}

func TestCheckRows(t *testing.T) {
	for n, x := range []struct {
		row  api.Import
		want api.Errno
	}{
		{api.Import{M: 1, F: 1, A: 0}, api.OK},
		{api.Import{M: 3, F: 3, A: 15}, api.OK},
		{api.Import{M: 0, F: 1, A: 0}, api.ErrIndex},
		{api.Import{M: 1, F: 0, A: 0}, api.ErrIndex},
		{api.Import{M: -1, F: 1, A: 0}, api.ErrIndex},
		{api.Import{M: 1, F: math.MinInt, A: 0}, api.ErrIndex},
		{api.Import{M: 4, F: 1, A: 0}, api.ErrIndex},
		{api.Import{M: 1, F: 4, A: 0}, api.ErrIndex},
		{api.Import{M: 1, F: 1, A: 16}, api.ErrIndex},
		{api.Import{M: 1, F: 1, A: -1}, api.ErrIndex},
	} {
		for at := range 2 {
			m := whole()
			m.Imports[at] = x.row
			if errno := holdCheckAgainstWords(t, m); errno != x.want {
				t.Error(n, at, errno, x.want)
			}
		}
	}
	for n, x := range []struct {
		row  api.Export
		want api.Errno
	}{
		{api.Export{F: 1, A: 0, L: 1}, api.OK},
		{api.Export{F: 1, A: 15, L: 7}, api.OK},
		{api.Export{F: 0, A: 0, L: 1}, api.ErrIndex},
		{api.Export{F: -1, A: 0, L: 1}, api.ErrIndex},
		{api.Export{F: 4, A: 0, L: 1}, api.ErrIndex},
		{api.Export{F: 1, A: -1, L: 1}, api.ErrIndex},
		{api.Export{F: 1, A: 16, L: 1}, api.ErrIndex},
		{api.Export{F: 1, A: 0, L: 0}, api.ErrIndex},
		{api.Export{F: 1, A: 0, L: -1}, api.ErrIndex},
		{api.Export{F: 1, A: 0, L: 3}, api.ErrIndex},
		{api.Export{F: 1, A: 0, L: 8}, api.ErrIndex},
	} {
		for at := range 2 {
			m := whole()
			m.Exports[at] = x.row
			if errno := holdCheckAgainstWords(t, m); errno != x.want {
				t.Error(n, at, errno, x.want)
			}
		}
	}
	for n, x := range []struct {
		row  api.Lambda
		want api.Errno
	}{
		{api.Lambda{A: 0, L: 1, Free: 0}, api.OK},
		{api.Lambda{A: 15, L: 7, Free: 0}, api.OK},
		{api.Lambda{A: 0, L: 1, Free: 15}, api.OK},
		{api.Lambda{A: 7, L: 1, Free: 8}, api.OK},
		{api.Lambda{A: 8, L: 1, Free: 8}, api.ErrIndex},
		{api.Lambda{A: 16, L: 1, Free: 0}, api.ErrIndex},
		{api.Lambda{A: 0, L: 1, Free: 16}, api.ErrIndex},
		{api.Lambda{A: 1, L: 1, Free: 15}, api.ErrIndex},
		{api.Lambda{A: -1, L: 1, Free: 1}, api.ErrIndex},
		{api.Lambda{A: 1, L: 1, Free: -1}, api.ErrIndex},
		{api.Lambda{A: 16, L: 1, Free: -1}, api.ErrIndex},
		{api.Lambda{A: math.MaxInt, L: 1, Free: math.MaxInt}, api.ErrIndex},
		{api.Lambda{A: math.MaxInt, L: 1, Free: 1}, api.ErrIndex},
		{api.Lambda{A: math.MinInt, L: 1, Free: math.MinInt}, api.ErrIndex},
		{api.Lambda{A: 1, L: 0, Free: 0}, api.ErrIndex},
		{api.Lambda{A: 1, L: 3, Free: 0}, api.ErrIndex},
	} {
		for at := range 2 {
			m := whole()
			m.Funs[at] = x.row
			if errno := holdCheckAgainstWords(t, m); errno != x.want {
				t.Error(n, at, errno, x.want)
			}
		}
	}
}

func TestCheckOperands(t *testing.T) {
	for _, x := range []struct {
		i    api.Ins
		want api.Errno
	}{
		{callExt(0), api.OK},
		{callExt(1), api.OK},
		{callExt(2), api.ErrIndex},
		{ins(ops.CallExt, of(api.TagU, 99), of(api.TagU, 1)), api.OK},
		{makeFun(0), api.OK},
		{makeFun(1), api.OK},
		{makeFun(2), api.ErrIndex},
		{info(3, 3, 99), api.OK},
		{info(4, 3, 1), api.ErrIndex},
		{info(3, 4, 1), api.ErrIndex},
		{move(of(api.TagA, 0)), api.OK},
		{move(of(api.TagA, 3)), api.OK},
		{move(of(api.TagA, 4)), api.ErrIndex},
		{move(of(api.TagL, 0)), api.OK},
		{move(of(api.TagL, 1)), api.OK},
		{move(of(api.TagL, 2)), api.ErrIndex},
		{move(of(api.TagI, 1000)), api.OK},
		{move(of(api.TagY, 11)), api.OK},
		{ins(ops.Call, of(api.TagU, 99), of(api.TagF, 7)), api.OK},
		{ins(ops.Call, of(api.TagU, 0), of(api.TagF, 8)), api.ErrLabel},
		{tuple(of(api.TagA, 0), of(api.TagL, 0)), api.OK},
		{tuple(of(api.TagX, 1), of(api.TagA, 4)), api.ErrIndex},
		{tuple(of(api.TagX, 1), of(api.TagL, 2), of(api.TagX, 1)), api.ErrIndex},
		{ins(ops.MakeFun, of(api.TagU, 1), list(of(api.TagL, 2)), of(api.TagX, 0)), api.ErrIndex},
		{ins(ops.BsMake, of(api.TagU, 99), list(of(api.TagL, 1)), of(api.TagX, 0)), api.OK},
		{selects(of(api.TagA, 3), of(api.TagF, 2)), api.OK},
		{selects(of(api.TagA, 4), of(api.TagF, 2)), api.ErrIndex},
		{selects(of(api.TagI, 4), of(api.TagF, 2), of(api.TagA, 4), of(api.TagF, 2)), api.ErrIndex},
		{ins(ops.IsEq, of(api.TagF, 2), of(api.TagX, 0), of(api.TagA, 4)), api.ErrIndex},
	} {
		for _, at := range []int{0, 5, 9} {
			m := whole()
			m.Code = slices.Insert(m.Code, at, x.i)
			if errno := holdCheckAgainstWords(t, m); errno != x.want {
				t.Error(x.i, at, errno, x.want)
			}
		}
	}
}

func TestCheckWithoutTables(t *testing.T) {
	for _, x := range []struct {
		i    api.Ins
		want api.Errno
	}{
		{ret, api.OK},
		{move(of(api.TagA, 0)), api.OK},
		{move(of(api.TagA, 1)), api.ErrIndex},
		{move(of(api.TagL, 0)), api.ErrIndex},
		{callExt(0), api.ErrIndex},
		{makeFun(0), api.ErrIndex},
	} {
		if errno := holdCheckAgainstWords(t, api.Module{Code: []api.Ins{x.i, end}}); errno != x.want {
			t.Error(x.i, errno, x.want)
		}
	}
}

func TestCheckLiterals(t *testing.T) {
	for n, x := range []struct {
		t    api.Term
		want api.Errno
	}{
		{api.Term{Kind: api.Nil}, api.OK},
		{api.Term{Kind: api.Bin, S: strings.Repeat("\xff", 400)}, api.OK},
		{api.Term{Kind: api.Bin, S: strings.Repeat("\xff", 401)}, api.ErrBytes},
		{atom("not there among the atoms"), api.ErrBytes},
		{atom("not_there_among_the_atoms"), api.OK},
		{api.Term{}, api.ErrBytes},
		{api.Term{Kind: api.Fun}, api.ErrBytes},
		{api.Term{Kind: api.Match}, api.ErrBytes},
		{api.Term{Kind: api.Catch, N: 1}, api.ErrBytes},
		{api.Term{Kind: api.Nil, N: 1}, api.ErrBytes},
		{api.Term{Kind: api.Cons, K: []api.Term{integer(1)}}, api.ErrBytes},
	} {
		for at := range 2 {
			m := whole()
			m.Literals[at] = x.t
			if errno := holdCheckAgainstWords(t, m); errno != x.want {
				t.Error(n, at, errno, x.want)
			}
		}
	}
}

func TestCheckExportsTwice(t *testing.T) {
	for _, x := range []struct {
		more api.Export
		want api.Errno
	}{
		{api.Export{F: 2, A: 1, L: 2}, api.ErrTwice},
		{api.Export{F: 2, A: 1, L: 7}, api.ErrTwice},
		{api.Export{F: 3, A: 15, L: 1}, api.ErrTwice},
		{api.Export{F: 2, A: 2, L: 2}, api.OK},
		{api.Export{F: 1, A: 1, L: 2}, api.OK},
		{api.Export{F: 1, A: 2, L: 2}, api.OK},
	} {
		m := whole()
		m.Exports = append(m.Exports, x.more)
		if errno := holdCheckAgainstWords(t, m); errno != x.want {
			t.Error(x.more, errno, x.want)
		}
	}
}

// Of what is wrong the first is told: all of it, and then one mended after the other.
func TestCheckInItsOrder(t *testing.T) {
	m := api.Module{
		Atoms:    make([]string, 2),
		Imports:  make([]api.Import, 61),
		Exports:  []api.Export{{F: 1, L: 9}, {F: 1, L: 9}},
		Literals: make([]api.Term, 1),
		Code:     []api.Ins{ins(1), label(3), label(3), move(of(api.TagL, 5))},
	}
	for n, x := range []struct {
		mend func()
		want api.Errno
	}{
		{func() {}, api.ErrBig},
		{func() { m.Imports = m.Imports[:1] }, api.ErrAtom},
		{func() { m.Atoms = []string{"a", "a"} }, api.ErrAtom},
		{func() { m.Atoms = []string{"a", "b"} }, api.ErrOperand},
		{func() { m.Code[0] = label(2) }, api.ErrOp},
		{func() { m.Code = append(m.Code, end) }, api.ErrLabel},
		{func() { m.Code[2] = label(4) }, api.ErrIndex},
		{func() { m.Imports = nil }, api.ErrIndex},
		{func() { m.Exports[0].L, m.Exports[1].L = 2, 3 }, api.ErrBytes},
		{func() { m.Literals[0] = integer(1) }, api.ErrIndex},
		{func() { m.Code[3] = ret }, api.ErrTwice},
		{func() { m.Exports[1].A = 1 }, api.OK},
	} {
		x.mend()
		if errno := holdCheckAgainstWords(t, m); errno != x.want {
			t.Error(n, errno, x.want)
		}
		if b, errno := Write(m); errno != x.want || (b != nil) != (x.want == api.OK) {
			t.Error(n, b, errno, x.want)
		}
	}
}

func TestCheckByItsWords(t *testing.T) {
	d := dice(1)
	told := map[api.Errno]int{}
	for range 20000 {
		m := d.module()
		if holdCheckAgainstWords(t, m) != api.OK {
			t.Fatalf("%+v", m)
		}
		for range 1 + d.below(2) {
			if len(m.Funs) > 0 && len(m.Imports) > 0 && len(m.Literals) > 0 && len(m.Atoms) > 0 {
				m = d.spoil(m)
			}
		}
		told[holdCheckAgainstWords(t, m)]++
	}
	for _, errno := range []api.Errno{api.OK, api.ErrAtom, api.ErrOperand, api.ErrLabel, api.ErrIndex, api.ErrBytes, api.ErrTwice} {
		if told[errno] < 200 {
			t.Error("too few of", errno, told)
		}
	}
}

// P9.2

func four(l ...int) string {
	var b []byte
	for _, n := range l {
		b = binary.BigEndian.AppendUint32(b, uint32(n))
	}
	return string(b)
}

// wholeChunks are what whole is written as.
func wholeChunks() []api.Chunk {
	return []api.Chunk{
		{Name: "AtU8", Data: four(3) + "\x01m\x01f\x01g"},
		{Name: "Code", Data: four(16, 0, 51, 8, 2) + "\x01\x10" + "\x02\x12\x22\x10" + "\x01\x20" + "\x09\x00\x10" + "\x2c\x10\x17\x00\x03" + "\x01\x70" + "\x12\x17\x20\x47\x10\x32\x03" + "\x0b" + "\x02\x12\x32\x10" + "\x03"},
		{Name: "ImpT", Data: four(2, 3, 1, 2, 1, 3, 15)},
		{Name: "ExpT", Data: four(2, 2, 1, 2, 3, 15, 7)},
		{Name: "FunT", Data: four(2, 1, 2, 14, 15, 7, 0)},
		{Name: "LitT", Data: four(2, 5) + "b\x00\x00\x01\x00" + four(5) + "h\x01w\x01q"},
	}
}

func TestWrite(t *testing.T) {
	b, errno := Write(whole())
	want, _ := iff.Make(wholeChunks())
	if !bytes.Equal(b, want) || errno != api.OK {
		t.Errorf("%q %d, not %q", b, errno, want)
	}
}

func TestWriteLeavesOutWhatIsEmpty(t *testing.T) {
	smallest := []api.Chunk{{Name: "AtU8", Data: four(0)}, {Name: "Code", Data: four(16, 0, 51, 1, 0) + "\x03"}}
	for n, x := range []struct {
		m    api.Module
		more []api.Chunk
	}{
		{api.Module{}, nil},
		{api.Module{Atoms: []string{}, Imports: []api.Import{}, Exports: []api.Export{}, Funs: []api.Lambda{}, Literals: []api.Term{}}, nil},
		{api.Module{Literals: []api.Term{{Kind: api.Nil}}}, []api.Chunk{{Name: "LitT", Data: four(1, 1) + "j"}}},
	} {
		x.m.Code = []api.Ins{end}
		b, errno := Write(x.m)
		if want, _ := iff.Make(append(slices.Clone(smallest), x.more...)); !bytes.Equal(b, want) || errno != api.OK {
			t.Errorf("%d: %q %d, not %q", n, b, errno, want)
		}
	}
	for n, clearOne := range []func(*api.Module){
		2: func(m *api.Module) { m.Imports = nil },
		3: func(m *api.Module) { m.Exports = nil },
		4: func(m *api.Module) { m.Funs = nil },
		5: func(m *api.Module) { m.Literals = nil },
	} {
		if clearOne == nil {
			continue
		}
		m, want := whole(), wholeChunks()
		m.Code, want[1].Data = []api.Ins{label(2), label(7), end}, four(16, 0, 51, 8, 0)+"\x01\x20\x01\x70\x03"
		clearOne(&m)
		b, errno := Write(m)
		if want, _ := iff.Make(slices.Delete(want, n, n+1)); !bytes.Equal(b, want) || errno != api.OK {
			t.Errorf("%d: %q %d, not %q", n, b, errno, want)
		}
	}
}

func TestWriteTellsGreatestLabelAndInfos(t *testing.T) {
	for _, x := range []struct {
		l             []api.Ins
		labels, infos int
	}{
		{nil, 1, 0},
		{[]api.Ins{label(1)}, 2, 0},
		{[]api.Ins{label(200), label(3)}, 201, 0},
		{[]api.Ins{label(3), label(200)}, 201, 0},
		{[]api.Ins{info(1, 1, 0), info(1, 1, 0), label(4), info(1, 1, 0)}, 5, 3},
	} {
		b, _ := Write(api.Module{Atoms: []string{"a"}, Code: append(x.l, end)})
		l, _ := iff.Parse(b)
		data, _ := iff.Find(l, "Code")
		if !strings.HasPrefix(data, four(16, 0, 51, x.labels, x.infos)) {
			t.Errorf("%v: %q", x.l, data)
		}
	}
}

// fat is a module whose file has just so many bytes: some literals of 400 and one of fewer.
func fat(size int) api.Module {
	m := api.Module{Code: []api.Ins{end}}
	full := api.Term{Kind: api.Tuple, K: slices.Repeat([]api.Term{{Kind: api.Bin, S: strings.Repeat("x", 400)}}, 2)}
	for range 60 {
		m.Literals = append(m.Literals, full)
	}
	for n := range m.Literals {
		b, _ := Write(m)
		more := size - len(b)
		switch {
		case more <= 0:
			return m
		case more > 405:
			m.Literals[n].K = slices.Repeat(full.K[:1], min(40, 2+(more-4)/405))
		default:
			m.Literals[n].K = append(slices.Clone(full.K), api.Term{Kind: api.Bin, S: strings.Repeat("x", max(0, more-5))})
		}
	}
	return m
}

func TestWriteTooBig(t *testing.T) {
	m := fat(api.MaxFile)
	b, errno := Write(m)
	if len(b) != api.MaxFile || errno != api.OK {
		t.Fatal(len(b), errno)
	}
	if back, _, _, errno := Parse(b); !same(back, m) || errno != api.OK {
		t.Error(errno)
	}
	m.Literals = append(slices.Clone(m.Literals[:59]), api.Term{Kind: api.Tuple, K: append(slices.Clone(m.Literals[59].K), api.Term{Kind: api.Nil}, api.Term{Kind: api.Nil}, api.Term{Kind: api.Nil}, api.Term{Kind: api.Nil})})
	if b, errno := Write(m); b != nil || errno != api.ErrBig || Check(m) != api.OK {
		t.Error(len(b), errno)
	}
}

// P9.3

// bytesByWords goes through bytes; at is beyond them, once they ended too early.
type bytesByWords struct {
	b    string
	at   int
	over bool
}

func (r *bytesByWords) next(n int) string {
	if r.over || n < 0 || len(r.b)-r.at < n {
		r.over = true
		return ""
	}
	r.at += n
	return r.b[r.at-n : r.at]
}

func (r *bytesByWords) four() int {
	s := r.next(4)
	if r.over {
		return 0
	}
	return int(binary.BigEndian.Uint32([]byte(s)))
}

// tableByWords is a table's errno, with each row's read by one.
func tableByWords(data string, most int, one func(*bytesByWords) api.Errno) api.Errno {
	r := &bytesByWords{b: data}
	n := r.four()
	if r.over {
		return api.ErrShort
	}
	if n > most {
		return api.ErrBig
	}
	for range n {
		errno := one(r)
		if r.over {
			return api.ErrShort
		}
		if errno != api.OK {
			return errno
		}
	}
	if r.at < len(data) {
		return api.ErrBytes
	}
	return api.OK
}

func threeByWords(put func(a, b, c int)) func(*bytesByWords) api.Errno {
	return func(r *bytesByWords) api.Errno {
		a := r.four()
		b := r.four()
		c := r.four()
		put(a, b, c)
		return api.OK
	}
}

func codeByWords(m *api.Module, data string) (int, api.Errno) {
	if len(data) < 20 {
		return 0, api.ErrShort
	}
	l, at, errno := code.Get([]byte(data[20:]))
	if errno != api.OK {
		return at + 20, errno
	}
	greatest, infos := 0, 0
	for _, i := range l {
		if i.Op == 1 && i.Args[0].N > greatest {
			greatest = i.Args[0].N
		}
		if i.Op == 2 {
			infos++
		}
	}
	if data[:20] != four(16, 0, 51, greatest+1, infos) {
		return 0, api.ErrBytes
	}
	m.Code = l
	return 0, api.OK
}

// chunkByWords reads one chunk into m.
func chunkByWords(m *api.Module, name, data string) (int, api.Errno) {
	switch name {
	case "AtU8":
		return 0, tableByWords(data, 200, func(r *bytesByWords) api.Errno {
			if size := r.next(1); !r.over {
				m.Atoms = append(m.Atoms, r.next(int(size[0])))
			}
			return api.OK
		})
	case "Code":
		return codeByWords(m, data)
	case "ImpT":
		return 0, tableByWords(data, 60, threeByWords(func(a, b, c int) { m.Imports = append(m.Imports, api.Import{M: a, F: b, A: c}) }))
	case "ExpT":
		return 0, tableByWords(data, 60, threeByWords(func(a, b, c int) { m.Exports = append(m.Exports, api.Export{F: a, A: b, L: c}) }))
	case "FunT":
		return 0, tableByWords(data, 60, threeByWords(func(a, b, c int) { m.Funs = append(m.Funs, api.Lambda{A: a, L: b, Free: c}) }))
	}
	return 0, tableByWords(data, 60, func(r *bytesByWords) api.Errno {
		b := []byte(r.next(r.four()))
		if r.over {
			return api.ErrShort
		}
		t, next, errno := ext.Get(b, 0)
		if errno == api.OK && next != len(b) {
			errno = api.ErrBytes
		}
		m.Literals = append(m.Literals, t)
		return errno
	})
}

// parseByWords is Parse by its words.
func parseByWords(b []byte) (api.Module, string, int, api.Errno) {
	l, errno := iff.Parse(b)
	if errno != api.OK {
		return api.Module{}, "", 0, errno
	}
	in := map[string]string{}
	for _, c := range l {
		in[c.Name] = c.Data
	}
	for _, name := range []string{"AtU8", "Code"} {
		if _, there := in[name]; !there {
			return api.Module{}, name, 0, api.ErrChunk
		}
	}
	m := api.Module{}
	for _, name := range []string{"AtU8", "Code", "ImpT", "ExpT", "FunT", "LitT"} {
		data, there := in[name]
		if !there {
			continue
		}
		if at, errno := chunkByWords(&m, name, data); errno != api.OK {
			return api.Module{}, name, at, errno
		}
	}
	if errno := checkByWords(m); errno != api.OK {
		return api.Module{}, "", 0, errno
	}
	return m, "", 0, api.OK
}

func holdParseAgainstWords(t *testing.T, b []byte) (string, api.Errno) {
	t.Helper()
	m, name, at, errno := Parse(b)
	want, wantName, wantAt, wantErrno := parseByWords(b)
	if !same(m, want) || name != wantName || at != wantAt || errno != wantErrno {
		t.Fatalf("Parse(%q): %+v %q %d %d, not %+v %q %d %d", b, m, name, at, errno, want, wantName, wantAt, wantErrno)
	}
	if errno != api.OK && (m.Atoms != nil || m.Imports != nil || m.Exports != nil || m.Funs != nil || m.Literals != nil || m.Code != nil) {
		t.Fatalf("Parse(%q): %+v beside %d", b, m, errno)
	}
	return name, errno
}

// with is the file of whole, but for one chunk; "-" takes it away.
func with(t *testing.T, name, data string) []byte {
	t.Helper()
	l := wholeChunks()
	at := slices.IndexFunc(l, func(c api.Chunk) bool { return c.Name == name })
	switch {
	case at < 0:
		l = append(l, api.Chunk{Name: name, Data: data})
	case data == "-":
		l = slices.Delete(l, at, at+1)
	default:
		l[at].Data = data
	}
	return made(t, l)
}

func made(t *testing.T, l []api.Chunk) []byte {
	t.Helper()
	b, errno := iff.Make(l)
	if errno != api.OK {
		t.Fatal(l, errno)
	}
	return b
}

func TestExample(t *testing.T) {
	b := made(t, nil)
	if m, name, at, errno := Parse(b); !same(m, api.Module{}) || name != "AtU8" || at != 0 || errno != api.ErrChunk {
		t.Error(m, name, at, errno)
	}
}

func TestParse(t *testing.T) {
	m, name, at, errno := Parse(made(t, wholeChunks()))
	if !same(m, whole()) || name != "" || at != 0 || errno != api.OK {
		t.Error(m, name, at, errno)
	}
	turned := wholeChunks()
	slices.Reverse(turned)
	turned = append(turned, api.Chunk{Name: "Line", Data: "x"}, api.Chunk{Name: "atU8"})
	if m, name, at, errno := Parse(made(t, turned)); !same(m, whole()) || name != "" || at != 0 || errno != api.OK {
		t.Error(m, name, at, errno)
	}
}

func TestParseFiles(t *testing.T) {
	file := made(t, wholeChunks())
	for n, x := range []struct {
		b    []byte
		name string
		want api.Errno
	}{
		{nil, "", api.ErrShort},
		{[]byte{}, "", api.ErrShort},
		{make([]byte, api.MaxFile+1), "", api.ErrBig},
		{make([]byte, 12), "", api.ErrForm},
		{file[:len(file)-1], "", api.ErrForm},
		{append(slices.Clone(file), 0), "", api.ErrForm},
		{with(t, "AtU8", "-"), "AtU8", api.ErrChunk},
		{with(t, "Code", "-"), "Code", api.ErrChunk},
		{made(t, wholeChunks()[2:]), "AtU8", api.ErrChunk},
		{made(t, wholeChunks()[1:1]), "AtU8", api.ErrChunk},
		{made(t, []api.Chunk{{Name: "Code"}}), "AtU8", api.ErrChunk},
		{made(t, []api.Chunk{{Name: "AtU8"}}), "Code", api.ErrChunk},
		{made(t, []api.Chunk{{Name: "LitT"}, {Name: "AtU8"}}), "Code", api.ErrChunk},
		{made(t, []api.Chunk{{Name: "LitT"}, {Name: "Code"}, {Name: "AtU8"}}), "AtU8", api.ErrShort},
		{with(t, "Abcd", ""), "", api.OK},
	} {
		if name, errno := holdParseAgainstWords(t, x.b); name != x.name || errno != x.want {
			t.Error(n, name, errno)
		}
	}
}

func TestParseTables(t *testing.T) {
	for _, x := range []struct {
		chunk, data string
		want        api.Errno
	}{
		{"AtU8", "", api.ErrShort},
		{"AtU8", "\x00\x00\x00", api.ErrShort},
		{"AtU8", "\xff\xff\xff", api.ErrShort},
		{"AtU8", four(0) + "x", api.ErrBytes},
		{"AtU8", four(201), api.ErrBig},
		{"AtU8", four(1<<31 - 1), api.ErrBig},
		{"AtU8", four(1 << 31), api.ErrBig},
		{"AtU8", "\xff\xff\xff\xff", api.ErrBig},
		{"AtU8", four(200), api.ErrShort},
		{"AtU8", four(200) + "\x01a", api.ErrShort},
		{"AtU8", four(1), api.ErrShort},
		{"AtU8", four(1) + "\x01", api.ErrShort},
		{"AtU8", four(1) + "\x02x", api.ErrShort},
		{"AtU8", four(1) + "\xff", api.ErrShort},
		{"AtU8", four(1) + "\x01ab", api.ErrBytes},
		{"AtU8", four(2) + "\x01a\x01", api.ErrShort},
		{"ImpT", "", api.ErrShort},
		{"ImpT", four(61), api.ErrBig},
		{"ImpT", four(60), api.ErrShort},
		{"ImpT", four(1, 1, 1), api.ErrShort},
		{"ImpT", four(1, 1, 1, 1)[:15], api.ErrShort},
		{"ImpT", four(1, 1, 1, 1) + "x", api.ErrBytes},
		{"ImpT", four(0, 1), api.ErrBytes},
		{"ExpT", four(61), api.ErrBig},
		{"ExpT", four(2, 1, 1, 1), api.ErrShort},
		{"ExpT", four(1, 1, 1, 1, 1), api.ErrBytes},
		{"FunT", four(61), api.ErrBig},
		{"FunT", four(61, 1), api.ErrBig},
		{"FunT", four(1, 1, 1, 1)[:13], api.ErrShort},
		{"FunT", four(1, 1, 1, 1) + "\x00", api.ErrBytes},
		{"LitT", "", api.ErrShort},
		{"LitT", four(61), api.ErrBig},
		{"LitT", four(1), api.ErrShort},
		{"LitT", four(1) + "\x00\x00\x00", api.ErrShort},
		{"LitT", four(1, 0), api.ErrShort},
		{"LitT", four(1, 1), api.ErrShort},
		{"LitT", four(1, 2) + "j", api.ErrShort},
		{"LitT", four(1, 2) + "z", api.ErrShort},
		{"LitT", four(1) + "\xff\xff\xff\xffj", api.ErrShort},
		{"LitT", four(1) + "\x80\x00\x00\x00j", api.ErrShort},
		{"LitT", four(1, 1) + "jj", api.ErrBytes},
		{"LitT", four(1, 2) + "jj", api.ErrBytes},
		{"LitT", four(1, 1) + "z", api.ErrBytes},
		{"LitT", four(1, 1) + "a", api.ErrShort},
		{"LitT", four(1, 1) + "a\x01", api.ErrShort},
		{"LitT", four(2, 1) + "z", api.ErrBytes},
		{"LitT", four(2, 2) + "jj", api.ErrBytes},
		{"LitT", four(2, 1) + "j", api.ErrShort},
		{"LitT", four(1, 5) + "b\x00\x00\x00\x01", api.ErrBytes},
	} {
		name, errno := holdParseAgainstWords(t, with(t, x.chunk, x.data))
		if name != x.chunk || errno != x.want {
			t.Errorf("%s %q: %s %d, not %d", x.chunk, x.data, name, errno, x.want)
		}
	}
}

func TestParseCode(t *testing.T) {
	head := four(16, 0, 51, 8, 1)
	for _, x := range []struct {
		data string
		name string
		at   int
		want api.Errno
	}{
		{"", "Code", 0, api.ErrShort},
		{head[:19], "Code", 0, api.ErrShort},
		{strings.Repeat("x", 19), "Code", 0, api.ErrShort},
		{head, "Code", 20, api.ErrShort},
		{strings.Repeat("x", 20), "Code", 20, api.ErrShort},
		{head + "\x00", "Code", 20, api.ErrOp},
		{head + "\x0b\x01", "Code", 21, api.ErrShort},
		{head + "\x0b\x01\x06\x03", "Code", 21, api.ErrBytes},
		{head + "\x0b\x01\x11\x03", "Code", 21, api.ErrOperand},
		{head + "\x0b\x03\x03", "Code", 22, api.ErrBytes},
		{head + strings.Repeat("\x0b", 400), "Code", 420, api.ErrBig},
		{four(16, 0, 51, 1, 0) + "\x03", "", 0, api.ErrIndex},
		{four(17, 0, 51, 1, 0) + "\x03", "Code", 0, api.ErrBytes},
		{four(16, 1, 51, 1, 0) + "\x03", "Code", 0, api.ErrBytes},
		{four(16, 0, 50, 1, 0) + "\x03", "Code", 0, api.ErrBytes},
		{four(16, 0, 52, 1, 0) + "\x03", "Code", 0, api.ErrBytes},
		{four(16, 0, 51, 0, 0) + "\x03", "Code", 0, api.ErrBytes},
		{four(16, 0, 51, 2, 0) + "\x03", "Code", 0, api.ErrBytes},
		{four(16, 0, 51, 1, 1) + "\x03", "Code", 0, api.ErrBytes},
		{four(16, 0, 51, 1, 0) + "\x03\x03", "Code", 21, api.ErrBytes},
		{four(16, 0, 51, 8, 0) + "\x01\x20\x01\x70\x03", "", 0, api.OK},
		{four(16, 0, 51, 3, 0) + "\x01\x20\x01\x70\x03", "Code", 0, api.ErrBytes},
		{four(16, 0, 51, 7, 0) + "\x01\x70\x01\x20\x03", "Code", 0, api.ErrBytes},
		{four(16, 0, 51, 8, 0) + "\x01\x20\x01\x70\x02\x12\x22\x10\x03", "Code", 0, api.ErrBytes},
		{four(16, 0, 51, 8, 1) + "\x01\x20\x01\x70\x02\x12\x22\x10\x03", "", 0, api.OK},
		// Labels that may not be: the numbers are told of that code, Check says no then.
		{four(16, 0, 51, 1, 0) + "\x01\x00\x03", "", 0, api.ErrLabel},
		{four(16, 0, 51, 3, 0) + "\x01\x20\x01\x20\x03", "", 0, api.ErrLabel},
		{four(16, 0, 51, 202, 0) + "\x01\x08\xc9\x03", "", 0, api.ErrLabel},
		{four(16, 0, 51, 1<<28, 0) + "\x01\x58\x0f\xff\xff\xff\x03", "", 0, api.ErrLabel},
		{four(16, 0, 51, 201, 0) + "\x01\x08\xc9\x03", "Code", 0, api.ErrBytes},
	} {
		b := with(t, "Code", x.data)
		m, name, at, errno := Parse(b)
		if name != x.name || at != x.at || errno != x.want || (m.Code != nil) != (errno == api.OK) {
			t.Errorf("%q: %s %d %d, not %s %d %d", x.data, name, at, errno, x.name, x.at, x.want)
		}
		holdParseAgainstWords(t, b)
	}
}

// What is wrong is told chunk by chunk in the order in which they are written, not that of the file; what Check says behind all.
func TestParseInItsOrder(t *testing.T) {
	l := wholeChunks()
	slices.Reverse(l)
	order := []string{"AtU8", "Code", "ImpT", "ExpT", "FunT", "LitT"}
	for n := range l {
		l[n].Data = "\x00"
	}
	for n, name := range order {
		if got, errno := holdParseAgainstWords(t, made(t, l)); got != name || errno != api.ErrShort {
			t.Error(name, got, errno)
		}
		l[len(l)-1-n].Data = map[string]string{"AtU8": four(2) + "\x01a\x01a", "Code": four(16, 0, 51, 1, 0) + "\x03"}[name]
		if n > 1 {
			l[len(l)-1-n].Data = four(0)
		}
	}
	if got, errno := holdParseAgainstWords(t, made(t, l)); got != "" || errno != api.ErrAtom {
		t.Error(got, errno)
	}
}

func TestParseChecks(t *testing.T) {
	for n, x := range []struct {
		b    []byte
		want api.Errno
	}{
		{with(t, "AtU8", four(3)+"\x01m\x01f\x01m"), api.ErrAtom},
		{with(t, "AtU8", four(3)+"\x01m\x01f\x00"), api.ErrAtom},
		{with(t, "AtU8", four(3)+"\x01m\x01f\x29"+strings.Repeat("x", 41)), api.ErrAtom},
		{with(t, "AtU8", four(3)+"\x01m\x01f\x28"+strings.Repeat("x", 40)), api.OK},
		{with(t, "AtU8", four(2)+"\x01m\x01f"), api.ErrIndex},
		{with(t, "ImpT", "-"), api.ErrIndex},
		{with(t, "ImpT", four(0)), api.ErrIndex},
		{with(t, "ImpT", four(2, 1, 1, 1, 1, 1, 16)), api.ErrIndex},
		{with(t, "ImpT", four(2, 1, 1, 1, 1<<31, 1, 1)), api.ErrIndex},
		{with(t, "ImpT", four(2, 1, 1, 1, 1<<32-1, 1, 1)), api.ErrIndex},
		{with(t, "ImpT", four(2, 1, 1, 1, 1, 1, 1<<32-1)), api.ErrIndex},
		{with(t, "ExpT", "-"), api.OK},
		{with(t, "ExpT", four(0)), api.OK},
		{with(t, "ExpT", four(2, 1, 1, 1, 1, 1, 2)), api.ErrTwice},
		{with(t, "ExpT", four(2, 1, 1, 1, 1, 2, 3)), api.ErrIndex},
		{with(t, "FunT", "-"), api.ErrIndex},
		{with(t, "FunT", four(2, 1, 1, 1, 1, 1, 1<<32-1)), api.ErrIndex},
		{with(t, "FunT", four(2, 1, 1, 1, 1<<31, 1, 1<<31)), api.ErrIndex},
		{with(t, "LitT", "-"), api.ErrIndex},
	} {
		if name, errno := holdParseAgainstWords(t, x.b); name != "" || errno != x.want {
			t.Error(n, name, errno, x.want)
		}
	}
}

// Each chunk cut anywhere ends too early; the file cut anywhere is none.
func TestParseWhatIsCut(t *testing.T) {
	file := made(t, wholeChunks())
	for n := range file {
		want := api.ErrForm
		if n < 12 {
			want = api.ErrShort
		}
		if name, errno := holdParseAgainstWords(t, file[:n]); name != "" || errno != want {
			t.Error(n, name, errno)
		}
	}
	for _, c := range wholeChunks() {
		for n := range len(c.Data) {
			if name, errno := holdParseAgainstWords(t, with(t, c.Name, c.Data[:n])); name != c.Name || errno != api.ErrShort {
				t.Error(c.Name, n, name, errno)
			}
		}
		if name, errno := holdParseAgainstWords(t, with(t, c.Name, c.Data+"\x00")); name != c.Name || errno != api.ErrBytes {
			t.Error(c.Name, name, errno)
		}
	}
}

func TestParseByItsWords(t *testing.T) {
	d := dice(2)
	told := map[api.Errno]int{}
	names := map[string]int{}
	for range 30000 {
		b, _ := Write(d.module())
		l, _ := iff.Parse(b)
		for range 1 + d.below(2) {
			c := &l[d.below(len(l))]
			c.Data = d.spoilBytes(c.Data)
		}
		if d.below(10) == 0 {
			l = slices.Delete(l, 0, d.below(3))
		}
		name, errno := holdParseAgainstWords(t, made(t, l))
		told[errno]++
		names[name]++
	}
	for range 3000 {
		b, _ := Write(d.module())
		holdParseAgainstWords(t, []byte(d.spoilBytes(string(b))))
	}
	for _, errno := range []api.Errno{api.OK, api.ErrBig, api.ErrShort, api.ErrBytes, api.ErrChunk, api.ErrAtom, api.ErrOp, api.ErrOperand, api.ErrLabel, api.ErrIndex} {
		if told[errno] < 10 {
			t.Error("too few of", errno, told)
		}
	}
	for _, name := range []string{"", "AtU8", "Code", "ImpT", "ExpT", "FunT", "LitT"} {
		if names[name] < 100 {
			t.Error("too few of", name, names)
		}
	}
}

// P9.4

func TestWrittenIsParsed(t *testing.T) {
	d := dice(3)
	for range 5000 {
		m := d.module()
		switch d.below(6) {
		case 0:
			m.Exports = nil
		case 1:
			m = api.Module{Atoms: m.Atoms, Literals: m.Literals, Code: []api.Ins{end}}
		}
		b, errno := Write(m)
		if errno != api.OK {
			t.Fatalf("%+v: %d", m, errno)
		}
		if back, name, at, errno := Parse(b); !same(back, m) || name != "" || at != 0 || errno != api.OK {
			t.Fatalf("%+v: %+v %q %d %d", m, back, name, at, errno)
		}
	}
}

func TestGreatestTables(t *testing.T) {
	m := api.Module{Atoms: names(200)}
	for n := range 60 {
		m.Imports = append(m.Imports, api.Import{M: 200, F: 200 - n, A: n % 16})
		m.Exports = append(m.Exports, api.Export{F: 200 - n, A: n % 16, L: 200})
		m.Funs = append(m.Funs, api.Lambda{A: n % 16, L: 200 - n, Free: 15 - n%16})
		m.Literals = append(m.Literals, integer(n))
	}
	for n := range 200 {
		m.Code = append(m.Code, label(n+1))
	}
	for n := range 60 {
		m.Code = append(m.Code, callExt(n), makeFun(n), move(of(api.TagL, n)))
	}
	m.Code = append(m.Code, info(200, 200, 0), end)
	b, errno := Write(m)
	if errno != api.OK {
		t.Fatal(errno)
	}
	if back, name, at, errno := Parse(b); !same(back, m) || name != "" || at != 0 || errno != api.OK {
		t.Error(name, at, errno)
	}
}

// What was parsed may have been a file in another order, with other chunks, with tables of no rows.
func TestParsedIsWrittenAnew(t *testing.T) {
	d := dice(4)
	for range 3000 {
		m := d.module()
		m.Exports = nil
		b, _ := Write(m)
		l, _ := iff.Parse(b)
		l = append(l, api.Chunk{Name: "ExpT", Data: four(0)}, api.Chunk{Name: "Line", Data: d.spoilBytes("xyz")})
		for n := range l {
			other := d.below(len(l))
			l[n], l[other] = l[other], l[n]
		}
		first, _, _, errno := Parse(made(t, l))
		if !same(first, m) || errno != api.OK {
			t.Fatalf("%+v: %+v %d", m, first, errno)
		}
		again, errno := Write(first)
		if !bytes.Equal(again, b) || errno != api.OK {
			t.Fatalf("%q, not %q: %d", again, b, errno)
		}
	}
}

// R1

func TestOddModules(t *testing.T) {
	inItself := []api.Arg{list(), of(api.TagX, 0)}
	inItself[0].L = inItself
	endless := []api.Term{{Kind: api.Cons}, {Kind: api.Cons}}
	endless[0].K, endless[1].K = endless, endless
	deep := api.Term{Kind: api.Nil}
	for range 100000 {
		deep = api.Term{Kind: api.Tuple, K: []api.Term{deep}}
	}
	for n, x := range []struct {
		change func(m *api.Module)
		want   api.Errno
	}{
		{func(m *api.Module) { m.Code[4] = ins(ops.PutTuple, inItself...) }, api.ErrOperand},
		{func(m *api.Module) { m.Code[4] = ins(math.MinInt, inItself...) }, api.ErrOperand},
		{func(m *api.Module) { m.Code[3] = ins(ops.CallExt) }, api.ErrOperand},
		{func(m *api.Module) { m.Code[4] = ins(ops.MakeFun) }, api.ErrOperand},
		{func(m *api.Module) { m.Literals[0] = endless[0] }, api.ErrBytes},
		{func(m *api.Module) { m.Literals[1] = deep }, api.ErrBytes},
		{func(m *api.Module) { m.Atoms[2] = strings.Repeat("x", 1<<20) }, api.ErrAtom},
		{func(m *api.Module) { m.Imports = make([]api.Import, 1<<20) }, api.ErrBig},
	} {
		m := whole()
		x.change(&m)
		if errno := Check(m); errno != x.want {
			t.Error(n, errno)
		}
		if b, errno := Write(m); b != nil || errno != x.want {
			t.Error(n, b, errno)
		}
	}
}

// R3

func TestArgumentsStayAsTheyAre(t *testing.T) {
	d := dice(5)
	for range 1000 {
		m := d.module()
		if d.below(2) == 0 {
			m = d.spoil(m)
		}
		was := clone(m)
		Check(m)
		b, _ := Write(m)
		file := slices.Clone(b)
		Parse(b)
		if !same(m, was) || !bytes.Equal(b, file) {
			t.Fatalf("%+v, not %+v", m, was)
		}
	}
}

// What stands behind a list that is handed in is not written to.
func TestSpareRoomStaysAsItIs(t *testing.T) {
	m := whole()
	m.Atoms, m.Exports = append(m.Atoms, "spare")[:3], append(m.Exports, api.Export{F: 99})[:2]
	m.Code = append(m.Code, ret)[:len(m.Code)]
	b, _ := Write(m)
	b = append(b, "spare"...)
	Parse(b[:len(b)-5])
	if m.Atoms[:4][3] != "spare" || m.Exports[:3][2].F != 99 || m.Code[:len(m.Code)+1][len(m.Code)].Op != ops.Return || string(b[len(b)-5:]) != "spare" {
		t.Error(m, b)
	}
}

func TestAnswersAreNewMemory(t *testing.T) {
	d := dice(6)
	for range 500 {
		m := d.module()
		was := clone(m)
		b, _ := Write(m)
		again, _ := Write(m)
		file := slices.Clone(b)
		first, _, _, _ := Parse(b)
		second, _, _, _ := Parse(b)
		clear(b[:cap(b)])
		if !bytes.Equal(again, file) || !same(first, was) {
			t.Fatalf("%q %+v, not %q %+v", again, first, file, was)
		}
		wipe(first)
		if !same(second, was) || !same(m, was) {
			t.Fatalf("%+v, not %+v", second, was)
		}
	}
}

// No two lists of one answer share memory, spare room neither.
func TestListsOfOneAnswerAreApart(t *testing.T) {
	b, _ := Write(whole())
	for n, wipeOne := range []func(m *api.Module){
		func(m *api.Module) { clear(m.Atoms[:cap(m.Atoms)]); m.Atoms = whole().Atoms },
		func(m *api.Module) { clear(m.Imports[:cap(m.Imports)]); m.Imports = whole().Imports },
		func(m *api.Module) { clear(m.Exports[:cap(m.Exports)]); m.Exports = whole().Exports },
		func(m *api.Module) { clear(m.Funs[:cap(m.Funs)]); m.Funs = whole().Funs },
		func(m *api.Module) { clear(m.Literals[:cap(m.Literals)]); m.Literals = whole().Literals },
		func(m *api.Module) { clear(m.Code[:cap(m.Code)]); m.Code = whole().Code },
		func(m *api.Module) { l := m.Code[6].Args[0].L; clear(l[:cap(l)]); m.Code[6] = whole().Code[6] },
	} {
		m, _, _, _ := Parse(b)
		wipeOne(&m)
		if !same(m, whole()) {
			t.Error(n, m)
		}
	}
}
