package ops

import (
	"math"
	"slices"
	"strings"
	"testing"

	"relict/api"
	"relict/compact"
)

func of(tag, n int) api.Arg { return api.Arg{Tag: tag, N: n} }

func list(l ...api.Arg) api.Arg { return api.Arg{Tag: api.TagList, L: l} }

func ins(op int, l ...api.Arg) api.Ins { return api.Ins{Op: op, Args: l} }

// table is the document's: names, and letters behind a blank.
var table = []string{
	"",
	"label u", "func_info aau", "end ", "move sd", "jump l", "call ul", "call_only ul", "call_last ulu", "call_ext uu", "call_fun u",
	"return ", "allocate uu", "deallocate u", "trim u", "init y", "test_heap uu", "put_list ssd", "put_tuple Sd", "get_list sdd", "get_element sud",
	"is_int ls", "is_atom ls", "is_nil ls", "is_cons ls", "is_tuple ls", "is_bin ls", "is_fun ls", "test_arity lsu", "is_lt lss", "is_ge lss",
	"is_eq lss", "is_ne lss", "select slP", "swap dd", "gc_op fuussd", "bif1 fusd", "bif2 fussd", "bs_start lsux", "bs_int lxud", "bs_bin lxuud",
	"bs_rest xud", "bs_tail lxu", "bs_make uSd", "make_fun uSd", "try yl", "try_end y", "try_case y", "raise ss", "badmatch s", "case_end s",
	"if_end ",
}

func row(op int) (name, letters string) {
	name, letters, _ = strings.Cut(table[op], " ")
	return name, letters
}

// others are numbers that are of no instruction.
var others = []int{0, -1, -4, 52, 53, 256 + 4, 1<<32 + 4, math.MaxInt, math.MinInt}

// byWords is whether an operand is by a letter, by the words of the chapter.
func byWords(letter byte, a api.Arg) bool {
	if !compact.Check(a) || a.Tag == api.TagX && a.N >= 16 || a.Tag == api.TagY && a.N >= 12 {
		return false
	}
	tags := map[byte][]int{
		'u': {api.TagU}, 'a': {api.TagA}, 's': {api.TagX, api.TagY, api.TagI, api.TagA, api.TagL}, 'd': {api.TagX, api.TagY},
		'x': {api.TagX}, 'y': {api.TagY}, 'l': {api.TagF}, 'f': {api.TagF}, 'S': {api.TagList}, 'P': {api.TagList},
	}
	if !slices.Contains(tags[letter], a.Tag) || (letter == 'a' || letter == 'l') && a.N == 0 {
		return false
	}
	seen := map[[2]int]int{}
	for n, x := range a.L {
		switch {
		case letter == 'S' && !byWords('s', x):
			return false
		case letter == 'P' && n%2 == 0:
			seen[[2]int{x.Tag, x.N}]++
			if x.Tag != api.TagI && x.Tag != api.TagA {
				return false
			}
		case letter == 'P' && !byWords('l', x):
			return false
		}
	}
	return letter != 'P' || len(a.L) == 2*len(seen)
}

// singles are operands of all tags, and of some that are none, with the numbers at the edges.
func singles() []api.Arg {
	var l []api.Arg
	for tag := -2; tag <= 9; tag++ {
		for _, n := range []int{0, 1, 2, 11, 12, 13, 15, 16, 17, 255, 1<<28 - 1, 1 << 28, 1 << 32, 1<<59 - 1, 1 << 59, -1, -2, -1 << 59, -1<<59 - 1, math.MaxInt, math.MinInt} {
			l = append(l, of(tag, n), api.Arg{Tag: tag, N: n, L: []api.Arg{of(api.TagX, 1)}})
		}
	}
	return l
}

// lists are lists of each single, alone, behind another, by twos, and long ones.
func lists() []api.Arg {
	l := []api.Arg{list(), {Tag: api.TagList, L: []api.Arg{}}}
	x, f := of(api.TagX, 1), of(api.TagF, 3)
	for _, a := range singles() {
		l = append(l, list(a), list(x, a), list(a, x), list(a, f), list(of(api.TagI, 5), a), list(of(api.TagA, 1), f, a, f), list(a, f, of(api.TagA, 1), f), list(of(api.TagA, 1), f, of(api.TagI, 7), a))
		l = append(l, api.Arg{Tag: api.TagList, N: 1, L: []api.Arg{a}}, list(list(a)))
	}
	for _, n := range []int{38, 39, 40, 41, 42, 80} {
		var pairs []api.Arg
		for i := range n {
			pairs = append(pairs, []api.Arg{of(api.TagI, i), f}[i%2])
		}
		l = append(l, list(slices.Repeat([]api.Arg{x}, n)...), list(pairs...))
	}
	return l
}

// good is an operand by a letter.
func good(letter byte) api.Arg {
	switch letter {
	case 'u':
		return of(api.TagU, 3)
	case 'a':
		return of(api.TagA, 1)
	case 's':
		return of(api.TagI, -9)
	case 'd', 'x':
		return of(api.TagX, 2)
	case 'y':
		return of(api.TagY, 2)
	case 'l':
		return of(api.TagF, 4)
	case 'f':
		return of(api.TagF, 0)
	case 'S':
		return list(of(api.TagX, 0), of(api.TagL, 2))
	}
	return list(of(api.TagI, 1), of(api.TagF, 2), of(api.TagA, 1), of(api.TagF, 2))
}

func goodIns(op int) api.Ins {
	_, letters := row(op)
	i := ins(op)
	for n := range len(letters) {
		i.Args = append(i.Args, good(letters[n]))
	}
	return i
}

// P7.1

func TestExample(t *testing.T) {
	if Sig(4) != "sd" {
		t.Error(Sig(4))
	}
}

func TestSigAndName(t *testing.T) {
	if Last != 51 || len(table) != 52 {
		t.Error(Last, len(table))
	}
	for op := 1; op <= 51; op++ {
		name, letters := row(op)
		if Name(op) != name || Sig(op) != letters {
			t.Error(op, Name(op), Sig(op))
		}
	}
	for _, op := range others {
		if Name(op) != "" || Sig(op) != "" {
			t.Error(op, Name(op), Sig(op))
		}
	}
}

// The constants are by the names of the table.
func TestConstants(t *testing.T) {
	for op, name := range map[int]string{
		Label: "label", FuncInfo: "func_info", End: "end", Move: "move", Jump: "jump", Call: "call", CallOnly: "call_only", CallLast: "call_last", CallExt: "call_ext", CallFun: "call_fun",
		Return: "return", Allocate: "allocate", Deallocate: "deallocate", Trim: "trim", Init: "init", TestHeap: "test_heap", PutList: "put_list", PutTuple: "put_tuple", GetList: "get_list", GetElement: "get_element",
		IsInt: "is_int", IsAtom: "is_atom", IsNil: "is_nil", IsCons: "is_cons", IsTuple: "is_tuple", IsBin: "is_bin", IsFun: "is_fun", TestArity: "test_arity", IsLt: "is_lt", IsGe: "is_ge",
		IsEq: "is_eq", IsNe: "is_ne", Select: "select", Swap: "swap", GcOp: "gc_op", Bif1: "bif1", Bif2: "bif2", BsStart: "bs_start", BsInt: "bs_int", BsBin: "bs_bin",
		BsRest: "bs_rest", BsTail: "bs_tail", BsMake: "bs_make", MakeFun: "make_fun", Try: "try", TryEnd: "try_end", TryCase: "try_case", Raise: "raise", BadMatch: "badmatch", CaseEnd: "case_end",
		IfEnd: "if_end",
	} {
		if got, _ := row(op); got != name {
			t.Error(op, name)
		}
	}
}

// P7.2

func TestFitsOneOfEach(t *testing.T) {
	for op := 1; op <= 51; op++ {
		i := goodIns(op)
		if !Fits(i) {
			t.Error(op, i)
		}
		for n := range i.Args {
			less := slices.Delete(slices.Clone(i.Args), n, n+1)
			if Fits(ins(op, less...)) {
				t.Error(op, less)
			}
		}
		for _, letter := range []byte("uasdxylfSP") {
			if Fits(ins(op, append(slices.Clone(i.Args), good(letter))...)) {
				t.Error(op, string(letter))
			}
		}
	}
}

func TestFitsOfNoInstruction(t *testing.T) {
	for _, op := range others {
		for _, i := range []api.Ins{ins(op), ins(op, of(api.TagU, 1)), ins(op, of(api.TagX, 1), of(api.TagX, 2))} {
			if Fits(i) || Throws(i) {
				t.Error(i)
			}
		}
	}
}

// Each operand of each instruction, changed for all kinds of others.
func TestFitsByItsWords(t *testing.T) {
	changed := append(singles(), lists()...)
	yes, no := 0, 0
	for op := 1; op <= 51; op++ {
		_, letters := row(op)
		for n := range len(letters) {
			i := goodIns(op)
			for _, a := range changed {
				i.Args[n] = a
				want := byWords(letters[n], a)
				if Fits(i) != want {
					t.Fatal(op, n, a, want)
				}
				if want {
					yes++
				} else {
					no++
				}
			}
		}
	}
	if yes < 1000 || no < 1000 {
		t.Error(yes, no)
	}
}

func TestFitsLetters(t *testing.T) {
	for n, x := range []struct {
		i    api.Ins
		want bool
	}{
		{ins(FuncInfo, of(api.TagA, 1), of(api.TagA, 2), of(api.TagU, 0)), true},
		{ins(FuncInfo, of(api.TagA, 0), of(api.TagA, 2), of(api.TagU, 0)), false},
		{ins(FuncInfo, of(api.TagA, 1), of(api.TagA, 0), of(api.TagU, 0)), false},
		{ins(Move, of(api.TagA, 0), of(api.TagX, 0)), true},
		{ins(Move, of(api.TagX, 15), of(api.TagY, 11)), true},
		{ins(Move, of(api.TagX, 16), of(api.TagY, 11)), false},
		{ins(Move, of(api.TagX, 15), of(api.TagY, 12)), false},
		{ins(Move, of(api.TagL, 1<<28-1), of(api.TagX, 0)), true},
		{ins(Move, of(api.TagL, 1<<28), of(api.TagX, 0)), false},
		{ins(Move, of(api.TagX, 0), of(api.TagL, 0)), false},
		{ins(Jump, of(api.TagF, 0)), false},
		{ins(Jump, of(api.TagF, 1<<28-1)), true},
		{ins(GcOp, of(api.TagF, 0), of(api.TagU, 1), of(api.TagU, 1), of(api.TagX, 1), of(api.TagX, 1), of(api.TagX, 1)), true},
		{ins(BsStart, of(api.TagF, 1), of(api.TagX, 0), of(api.TagU, 0), of(api.TagY, 0)), false},
		{ins(Init, of(api.TagX, 0)), false},
		{ins(End), true},
		{api.Ins{Op: End, Args: []api.Arg{}}, true},
	} {
		if Fits(x.i) != x.want {
			t.Error(n, x.i)
		}
	}
}

func TestFitsPairs(t *testing.T) {
	one, two, atom, f := of(api.TagI, 1), of(api.TagI, 2), of(api.TagA, 1), of(api.TagF, 9)
	for n, x := range []struct {
		pairs api.Arg
		want  bool
	}{
		{list(), true},
		{list(one, f), true},
		{list(one), false},
		{list(one, f, two), false},
		{list(one, f, two, f, atom, f), true},
		{list(one, f, two, f, one, f), false},
		{list(one, f, two, f, two, f), false},
		{list(atom, f, one, f, atom, f), false},
		{list(of(api.TagA, 0), f, of(api.TagI, 0), f), true},
		{list(of(api.TagA, 0), f, of(api.TagA, 0), f), false},
		{list(f, one), false},
		{list(one, of(api.TagF, 0)), false},
		{list(one, f, two, of(api.TagF, 0)), false},
		{list(one, of(api.TagX, 1)), false},
		{list(of(api.TagX, 1), f), false},
		{list(of(api.TagL, 1), f), false},
		{list(one, f, of(api.TagU, 1), f), false},
		{list(of(api.TagI, -1<<59), f, of(api.TagI, 1<<59-1), f), true},
		{list(of(api.TagI, -1<<59-1), f), false},
		{list(of(api.TagA, -1), f), false},
		{list(one, of(api.TagF, 1<<28)), false},
		{list(list(), f), false},
		{list(one, list()), false},
		{list(api.Arg{Tag: api.TagI, N: 1, L: []api.Arg{one}}, f), false},
		{one, false},
	} {
		if Fits(ins(Select, of(api.TagX, 0), f, x.pairs)) != x.want {
			t.Error(n, x.pairs)
		}
	}
}

func TestThrows(t *testing.T) {
	throws := []int{2, 6, 9, 10, 17, 18, 35, 36, 37, 43, 44, 48, 49, 50, 51}
	for op := 1; op <= 51; op++ {
		i := goodIns(op)
		if Throws(i) != slices.Contains(throws, op) {
			t.Error(op, Throws(i))
		}
		if Throws(ins(op, append(i.Args, of(api.TagU, 0))...)) || len(i.Args) > 0 && Throws(ins(op, i.Args[1:]...)) {
			t.Error(op, "of what does not fit")
		}
	}
	for op := 35; op <= 37; op++ {
		i := goodIns(op)
		for _, label := range []int{1, 2, 1<<28 - 1} {
			i.Args[0].N = label
			if Throws(i) {
				t.Error(op, label)
			}
		}
		i.Args[0] = of(api.TagU, 0)
		if Throws(i) {
			t.Error(op, "with no label")
		}
	}
}

func TestEnds(t *testing.T) {
	ends := []int{2, 3, 5, 7, 8, 11, 33, 48, 49, 50, 51}
	for op := -5; op <= 60; op++ {
		if Ends(op) != slices.Contains(ends, op) {
			t.Error(op, Ends(op))
		}
	}
	for _, op := range others {
		if Ends(op) {
			t.Error(op)
		}
	}
}

// R1 and R3

func TestListsInThemselves(t *testing.T) {
	l := make([]api.Arg, 2)
	l[0], l[1] = list(l...), list(l...)
	l[0].L, l[1].L = l, l
	for op := 1; op <= 51; op++ {
		i := goodIns(op)
		for n := range i.Args {
			i.Args[n] = l[0]
		}
		if len(i.Args) > 0 && Fits(i) || Fits(ins(op, l...)) || Throws(ins(op, l...)) {
			t.Error(op)
		}
	}
}

func TestArgumentsStayAsTheyWere(t *testing.T) {
	for op := 1; op <= 51; op++ {
		i, was := goodIns(op), goodIns(op)
		Fits(i)
		Throws(i)
		same := func(a, b api.Arg) bool { return a.Tag == b.Tag && a.N == b.N && slices.EqualFunc(a.L, b.L, sameSingle) }
		if !slices.EqualFunc(i.Args, was.Args, same) {
			t.Error(op, i)
		}
	}
}

func sameSingle(a, b api.Arg) bool { return a.Tag == b.Tag && a.N == b.N && len(a.L) == len(b.L) }
