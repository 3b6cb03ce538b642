package code

import (
	"bytes"
	"maps"
	"math"
	"slices"
	"strings"
	"testing"

	"relict/api"
	"relict/compact"
	"relict/ops"
)

func of(tag, n int) api.Arg { return api.Arg{Tag: tag, N: n} }

func list(l ...api.Arg) api.Arg { return api.Arg{Tag: api.TagList, L: l} }

func ins(op int, l ...api.Arg) api.Ins { return api.Ins{Op: op, Args: l} }

func label(n int) api.Ins { return ins(1, of(api.TagU, n)) }

func jump(n int) api.Ins { return ins(5, of(api.TagF, n)) }

var (
	end = ins(3)
	ret = ins(11)
)

func sameArg(a, b api.Arg) bool {
	return a.Tag == b.Tag && a.N == b.N && slices.EqualFunc(a.L, b.L, sameArg)
}

func same(a, b []api.Ins) bool {
	return slices.EqualFunc(a, b, func(x, y api.Ins) bool { return x.Op == y.Op && slices.EqualFunc(x.Args, y.Args, sameArg) })
}

func cloneArgs(l []api.Arg) []api.Arg {
	l = slices.Clone(l)
	for n := range l {
		l[n].L = cloneArgs(l[n].L)
	}
	return l
}

func clone(l []api.Ins) []api.Ins {
	l = slices.Clone(l)
	for n := range l {
		l[n].Args = cloneArgs(l[n].Args)
	}
	return l
}

// dice throws the same instructions and bytes at every run.
type dice uint64

func (d *dice) below(n int) int {
	*d = *d*6364136223846793005 + 1442695040888963407
	return int(uint64(*d)>>33) % n
}

// number has any number of bits up to most.
func (d *dice) number(most int) int {
	n := d.below(1<<30)<<30 | d.below(1<<30)
	return n & (1<<d.below(most+1) - 1)
}

// operand is one by a letter.
func (d *dice) operand(letter byte) api.Arg {
	switch letter {
	case 'u':
		return of(api.TagU, d.number(28))
	case 'a':
		return of(api.TagA, max(1, d.number(28)))
	case 's':
		return []api.Arg{of(api.TagI, d.number(59)), of(api.TagI, -d.number(59)), of(api.TagA, d.number(28)), of(api.TagL, d.number(28)), d.operand('d')}[d.below(5)]
	case 'd':
		return d.operand("xy"[d.below(2)])
	case 'x':
		return of(api.TagX, d.below(api.MaxX))
	case 'y':
		return of(api.TagY, d.below(api.MaxY))
	case 'l':
		return of(api.TagF, max(1, d.number(28)))
	case 'f':
		return of(api.TagF, d.below(3))
	}
	l := []api.Arg{}
	for n := range d.below(6) {
		if letter == 'S' {
			l = append(l, d.operand('s'))
		} else {
			l = append(l, of(1+d.below(2), n), d.operand('l'))
		}
	}
	return list(l...)
}

// one is an instruction that fits.
func (d *dice) one(op int) api.Ins {
	i := ins(op)
	for _, letter := range []byte(ops.Sig(op)) {
		i.Args = append(i.Args, d.operand(letter))
	}
	return i
}

// whole are up to most instructions and end.
func (d *dice) whole(most int) []api.Ins {
	var l []api.Ins
	for range d.below(most + 1) {
		op := 1 + d.below(51)
		if op != 3 {
			l = append(l, d.one(op))
		}
	}
	return append(l, end)
}

// spoil changes, cuts, or adds to bytes.
func (d *dice) spoil(b []byte) []byte {
	b = slices.Clone(b)
	at := d.below(len(b))
	switch d.below(6) {
	case 0:
		b[at] = byte(d.below(256))
	case 1:
		b[at] ^= 1 << d.below(8)
	case 2:
		b = b[:at]
	case 3:
		b = slices.Insert(b, at, []byte{0, 3, 11, 23, 52, 71, 0xff}[d.below(7)])
	case 4:
		b = slices.Delete(b, at, at+1)
	case 5:
		b = append(b, byte(d.below(256)))
	}
	return b
}

// P8.1

func TestExample(t *testing.T) {
	if b, errno := Put([]api.Ins{end}); string(b) != "\x03" || errno != api.OK {
		t.Error(b, errno)
	}
}

func TestPut(t *testing.T) {
	for n, x := range []struct {
		l    []api.Ins
		want string
	}{
		{[]api.Ins{label(5), ret, end}, "\x01\x50\x0b\x03"},
		{[]api.Ins{label(16), end}, "\x01\x08\x10\x03"},
		{[]api.Ins{ins(4, of(api.TagI, -1), of(api.TagX, 3)), end}, "\x04\x19\xff\xff\x33\x03"},
		{[]api.Ins{ins(2, of(api.TagA, 1), of(api.TagA, 2), of(api.TagU, 0)), end}, "\x02\x12\x22\x00\x03"},
		{[]api.Ins{ins(18, list(of(api.TagL, 1), of(api.TagY, 0)), of(api.TagX, 0)), end}, "\x12\x17\x20\x47\x10\x04\x03\x03"},
		{[]api.Ins{ins(18, list(), of(api.TagX, 0)), end}, "\x12\x17\x00\x03\x03"},
		{[]api.Ins{ins(18, api.Arg{Tag: api.TagList, L: []api.Arg{}}, of(api.TagX, 0)), end}, "\x12\x17\x00\x03\x03"},
		{[]api.Ins{ins(51), {Op: 3, Args: []api.Arg{}}}, "\x33\x03"},
	} {
		if b, errno := Put(x.l); string(b) != x.want || errno != api.OK {
			t.Errorf("%d: % x %d", n, b, errno)
		}
	}
}

func TestPutOneOfEach(t *testing.T) {
	d := dice(1)
	for op := 1; op <= 51; op++ {
		if op == 3 {
			continue
		}
		for range 50 {
			i := d.one(op)
			want := []byte{byte(op)}
			for _, a := range i.Args {
				want = compact.Put(want, a)
			}
			if b, errno := Put([]api.Ins{i, end}); !bytes.Equal(b, append(want, 3)) || errno != api.OK {
				t.Fatalf("%v: % x %d", i, b, errno)
			}
		}
	}
}

func TestPutRefuses(t *testing.T) {
	returns := slices.Repeat([]api.Ins{ret}, api.MaxIns)
	wrong := ins(4, of(api.TagX, 0), of(api.TagX, 16))
	for n, x := range []struct {
		l    []api.Ins
		want api.Errno
	}{
		{nil, api.ErrOp},
		{[]api.Ins{}, api.ErrOp},
		{[]api.Ins{end, end}, api.ErrOp},
		{[]api.Ins{ret, end, ret, end}, api.ErrOp},
		{[]api.Ins{end, ret}, api.ErrOp},
		{[]api.Ins{ret}, api.ErrOp},
		{slices.Concat(returns[1:], []api.Ins{end}), api.OK},
		{returns, api.ErrOp},
		{slices.Concat(returns, []api.Ins{end}), api.ErrBig},
		{slices.Concat(returns, returns), api.ErrBig},
		{slices.Concat(returns, []api.Ins{wrong}), api.ErrBig},
		{slices.Concat(returns[1:], []api.Ins{wrong}), api.ErrOperand},
		{[]api.Ins{wrong, end}, api.ErrOperand},
		{[]api.Ins{ret, wrong, end}, api.ErrOperand},
		{[]api.Ins{wrong}, api.ErrOperand},
		{[]api.Ins{end, wrong}, api.ErrOperand},
		{[]api.Ins{end, end, wrong, end}, api.ErrOperand},
		{[]api.Ins{ins(3, of(api.TagU, 0))}, api.ErrOperand},
		{[]api.Ins{ins(1), end}, api.ErrOperand},
		{[]api.Ins{label(1 << 28), end}, api.ErrOperand},
		{[]api.Ins{ins(18, list(list()), of(api.TagX, 0)), end}, api.ErrOperand},
	} {
		if b, errno := Put(x.l); errno != x.want || (len(b) > 0) != (errno == api.OK) {
			t.Error(n, b, errno)
		}
	}
	for _, op := range []int{0, -1, 52, 255, 256 + 11, 1<<32 + 3, math.MinInt, math.MaxInt} {
		for _, l := range [][]api.Ins{{ins(op), end}, {ins(op)}} {
			if b, errno := Put(l); b != nil || errno != api.ErrOperand {
				t.Error(op, b, errno)
			}
		}
	}
}

// P8.2

// getByWords is Get by its words.
func getByWords(b []byte) ([]api.Ins, int, api.Errno) {
	var l []api.Ins
	at := 0
	for number := 1; ; number++ {
		from := at
		switch {
		case number == api.MaxIns+1:
			return nil, from, api.ErrBig
		case from == len(b):
			return nil, from, api.ErrShort
		case b[from] == 0 || b[from] > 51:
			return nil, from, api.ErrOp
		}
		i := ins(int(b[from]))
		at++
		for range ops.Sig(i.Op) {
			a, behind, errno := compact.Get(b, at)
			if errno != api.OK {
				return nil, from, errno
			}
			i.Args, at = append(i.Args, a), behind
		}
		l = append(l, i)
		switch {
		case !ops.Fits(i):
			return nil, from, api.ErrOperand
		case i.Op == 3 && at < len(b):
			return nil, at, api.ErrBytes
		case i.Op == 3:
			return l, 0, api.OK
		}
	}
}

func holdAgainstWords(t *testing.T, b []byte) api.Errno {
	t.Helper()
	l, at, errno := Get(b)
	want, wantAt, wantErrno := getByWords(b)
	if !same(l, want) || at != wantAt || errno != wantErrno {
		t.Fatalf("Get(% x): %v %d %d, not %v %d %d", b, l, at, errno, want, wantAt, wantErrno)
	}
	if errno != api.OK && l != nil {
		t.Fatalf("Get(% x): %v beside %d", b, l, errno)
	}
	return errno
}

func TestGet(t *testing.T) {
	for n, x := range []struct {
		b    string
		want []api.Ins
	}{
		{"\x03", []api.Ins{end}},
		{"\x01\x50\x0b\x03", []api.Ins{label(5), ret, end}},
		{"\x04\x19\xff\xff\x33\x03", []api.Ins{ins(4, of(api.TagI, -1), of(api.TagX, 3)), end}},
		{"\x12\x17\x20\x47\x10\x04\x03\x03", []api.Ins{ins(18, list(of(api.TagL, 1), of(api.TagY, 0)), of(api.TagX, 0)), end}},
		{"\x12\x17\x00\x03\x03", []api.Ins{ins(18, list(), of(api.TagX, 0)), end}},
		{"\x21\x03\x15\x17\x20\x11\x25\x03", []api.Ins{ins(33, of(api.TagX, 0), of(api.TagF, 1), list(of(api.TagI, 1), of(api.TagF, 2))), end}},
	} {
		if l, at, errno := Get([]byte(x.b)); !same(l, x.want) || at != 0 || errno != api.OK {
			t.Error(n, l, at, errno)
		}
	}
}

func TestGetTellsThePlace(t *testing.T) {
	for _, x := range []struct {
		b    string
		at   int
		want api.Errno
	}{
		{"", 0, api.ErrShort},
		{"\x0b", 1, api.ErrShort},
		{"\x01\x50", 2, api.ErrShort},
		{"\x00", 0, api.ErrOp},
		{"\x34", 0, api.ErrOp},
		{"\xff", 0, api.ErrOp},
		{"\x83", 0, api.ErrOp},
		{"\x0b\x00\x03", 1, api.ErrOp},
		{"\x01\x50\x34\x03", 2, api.ErrOp},
		{"\x01", 0, api.ErrShort},
		{"\x0b\x01\x08", 1, api.ErrShort},
		{"\x0b\x04\x13", 1, api.ErrShort},
		{"\x0b\x04\x19\xff", 1, api.ErrShort},
		{"\x0b\x12\x17\x20\x03", 1, api.ErrShort},
		{"\x0b\x01\x06\x03", 1, api.ErrBytes},
		{"\x0b\x01\x08\x0f\x03", 1, api.ErrBytes},
		{"\x0b\x12\x17\x10\x17\x03", 1, api.ErrBytes},
		{"\x0b\x04\x13\x06", 1, api.ErrBytes},
		{"\x0b\x04\x06", 1, api.ErrBytes},
		{"\x0b\x04\x13\x11\x03", 1, api.ErrOperand},
		{"\x0b\x04\x08\x10\x13\x03", 1, api.ErrOperand},
		{"\x0b\x04\x13\x0b\x10\x03", 1, api.ErrOperand},
		{"\x0b\x04\x13\xc4\x03", 1, api.ErrOperand},
		{"\x0b\x04\x17\x00\x13\x03", 1, api.ErrOperand},
		{"\x0b\x12\x13\x13\x03", 1, api.ErrOperand},
		{"\x0b\x05\x05\x03", 1, api.ErrOperand},
		{"\x0b\x21\x03\x15\x17\x10\x11\x03", 1, api.ErrOperand},
		{"\x0b\x21\x03\x15\x17\x40\x11\x15\x11\x15\x03", 1, api.ErrOperand},
		// What is wrong with an operand is told ahead of what does not fit; operands one by one.
		{"\x04\x10\x06", 0, api.ErrBytes},
		{"\x04\x10", 0, api.ErrShort},
		{"\x04\x06", 0, api.ErrBytes},
		{"\x04\x10\x13\x00", 0, api.ErrOperand},
		{"\x03\x03", 1, api.ErrBytes},
		{"\x03\x00", 1, api.ErrBytes},
		{"\x0b\x03\xff", 2, api.ErrBytes},
		{"\x01\x50\x03\x0b\x03", 3, api.ErrBytes},
	} {
		if l, at, errno := Get([]byte(x.b)); l != nil || at != x.at || errno != x.want {
			t.Errorf("% x: %v %d %d, not %d %d", x.b, l, at, errno, x.at, x.want)
		}
		holdAgainstWords(t, []byte(x.b))
	}
}

func TestGetCounts(t *testing.T) {
	full := strings.Repeat("\x01\x10", api.MaxIns)
	for _, x := range []struct {
		behind string
		less   int
		at     int
		want   api.Errno
	}{
		{"", 0, 800, api.ErrBig},
		{"\x03", 0, 800, api.ErrBig},
		{"\x00", 0, 800, api.ErrBig},
		{"\x01", 0, 800, api.ErrBig},
		{"\x0b\x0b", 0, 800, api.ErrBig},
		{"", 1, 798, api.ErrShort},
		{"\x03", 1, 0, api.OK},
		{"\x03\x03", 1, 799, api.ErrBytes},
		{"\x00", 1, 798, api.ErrOp},
		{"\x01", 1, 798, api.ErrShort},
		{"\x0b", 1, 799, api.ErrBig},
		{"\x0b\x03", 1, 799, api.ErrBig},
		{"\x01\x06", 1, 798, api.ErrBytes},
		{"\x01\x11", 1, 798, api.ErrOperand},
	} {
		b := []byte(full[2*x.less:] + x.behind)
		l, at, errno := Get(b)
		if at != x.at || errno != x.want || (len(l) == api.MaxIns) != (errno == api.OK) {
			t.Errorf("% x less %d: %d %d %d", x.behind, x.less, len(l), at, errno)
		}
		holdAgainstWords(t, b)
	}
}

func TestGetOfAllShortBytes(t *testing.T) {
	holdAgainstWords(t, nil)
	for first := range 256 {
		holdAgainstWords(t, []byte{byte(first)})
		for second := range 256 {
			b := []byte{byte(first), byte(second)}
			holdAgainstWords(t, b)
			holdAgainstWords(t, append(b, 3))
			holdAgainstWords(t, append(b, 0x13, 3))
		}
	}
}

func TestGetByItsWords(t *testing.T) {
	d := dice(2)
	told := map[api.Errno]int{}
	for range 50000 {
		b, _ := Put(d.whole(6))
		for range d.below(3) {
			if len(b) > 0 {
				b = d.spoil(b)
			}
		}
		told[holdAgainstWords(t, b)]++
	}
	for _, errno := range []api.Errno{api.OK, api.ErrShort, api.ErrBytes, api.ErrOp, api.ErrOperand} {
		if told[errno] < 1000 {
			t.Error("too few of", errno, told)
		}
	}
}

// What is put is got, and what is got is put as it was.

func TestPutIsGot(t *testing.T) {
	d := dice(3)
	for range 3000 {
		l := d.whole(8)
		b, errno := Put(l)
		if errno != api.OK {
			t.Fatal(l, errno)
		}
		if got, at, errno := Get(b); !same(got, l) || at != 0 || errno != api.OK {
			t.Fatalf("%v: %v %d %d", l, got, at, errno)
		}
		for cut := range b {
			if got, at, errno := Get(b[:cut]); got != nil || at > cut || errno != api.ErrShort {
				t.Fatalf("%v cut at %d: %v %d %d", l, cut, got, at, errno)
			}
		}
	}
}

func TestGotIsPutByteForByte(t *testing.T) {
	d := dice(4)
	taken := 0
	for range 20000 {
		b, _ := Put(d.whole(4))
		b = d.spoil(b)
		l, _, errno := Get(b)
		if errno != api.OK {
			continue
		}
		taken++
		if again, errno := Put(l); !bytes.Equal(again, b) || errno != api.OK {
			t.Fatalf("% x: % x %d", b, again, errno)
		}
	}
	if taken < 1000 {
		t.Error("too few taken", taken)
	}
}

// P8.3

func TestLabels(t *testing.T) {
	selects := func(l int, pairs ...api.Arg) api.Ins {
		return ins(33, of(api.TagX, 0), of(api.TagF, l), list(pairs...))
	}
	for n, x := range []struct {
		l    []api.Ins
		want map[int]int
	}{
		{nil, map[int]int{}},
		{[]api.Ins{}, map[int]int{}},
		{[]api.Ins{end}, map[int]int{}},
		{[]api.Ins{label(1)}, map[int]int{1: 0}},
		{[]api.Ins{ret, label(7), label(200), end, label(3)}, map[int]int{7: 1, 200: 2, 3: 4}},
		{[]api.Ins{jump(7), label(7)}, map[int]int{7: 1}},
		{[]api.Ins{label(7), jump(7)}, map[int]int{7: 0}},
		{[]api.Ins{label(1), jump(2)}, nil},
		{[]api.Ins{jump(200)}, nil},
		{[]api.Ins{label(200), jump(201)}, nil},
		{[]api.Ins{label(1), jump(-1)}, nil},
		{[]api.Ins{jump(math.MinInt)}, nil},
		{[]api.Ins{jump(0)}, map[int]int{}},
		{[]api.Ins{label(0)}, nil},
		{[]api.Ins{label(-1)}, nil},
		{[]api.Ins{label(201)}, nil},
		{[]api.Ins{label(math.MaxInt)}, nil},
		{[]api.Ins{label(math.MinInt)}, nil},
		{[]api.Ins{label(4), ret, label(4)}, nil},
		{[]api.Ins{ins(1)}, nil},
		{[]api.Ins{ins(1, of(api.TagX, 9)), jump(9)}, map[int]int{9: 0}},
		{[]api.Ins{ins(1, of(api.TagF, 9))}, map[int]int{9: 0}},
		{[]api.Ins{ins(1, of(api.TagF, 0))}, nil},
		{[]api.Ins{ins(1, of(99, 9)), ins(1, of(api.TagI, 9))}, nil},
		{[]api.Ins{ins(1, of(api.TagU, 2), of(api.TagU, 3)), jump(3)}, nil},
		{[]api.Ins{ins(1, of(api.TagU, 2), of(api.TagF, 3))}, nil},
		{[]api.Ins{label(1), label(2), selects(2, of(api.TagI, 1), of(api.TagF, 1))}, map[int]int{1: 0, 2: 1}},
		{[]api.Ins{label(1), selects(1, of(api.TagI, 1), of(api.TagF, 2))}, nil},
		{[]api.Ins{label(1), selects(2, of(api.TagI, 1), of(api.TagF, 1))}, nil},
		{[]api.Ins{label(1), selects(1, of(api.TagI, 9), of(api.TagF, 0))}, map[int]int{1: 0}},
		{[]api.Ins{label(1), selects(1, of(api.TagI, 9), of(api.TagF, 1), of(api.TagI, 8), of(api.TagF, 5))}, nil},
	} {
		want := api.OK
		if x.want == nil {
			want = api.ErrLabel
		}
		if got, errno := Labels(x.l); !maps.Equal(got, x.want) || errno != want {
			t.Error(n, got, errno)
		}
	}
}

// An operand is a label by its tag alone, whatever it stands in.
func TestLabelsInWhateverOperand(t *testing.T) {
	for tag := -2; tag <= 9; tag++ {
		for op := -1; op <= 53; op++ {
			for _, n := range []int{-1, 0, 1, 2, 200, 201} {
				want := tag != api.TagF || n == 0 || n == 2
				a := of(tag, n)
				for _, i := range []api.Ins{
					ins(op, label(5).Args[0], a),
					ins(op, label(5).Args[0], of(api.TagX, 1), a, of(api.TagX, 1)),
					ins(op, api.Arg{Tag: api.TagX, N: 5, L: []api.Arg{of(api.TagF, 2), a}}),
					ins(op, api.Arg{Tag: 77, N: 5, L: []api.Arg{a, of(api.TagF, 2)}}),
					ins(op, label(5).Args[0], list(of(api.TagX, 1), list(), list(list(a)), of(api.TagX, 1))),
				} {
					if _, errno := Labels([]api.Ins{label(2), i}); (errno == api.OK) != want {
						t.Fatal(op, tag, n, i, errno)
					}
				}
			}
		}
	}
}

func TestAllLabels(t *testing.T) {
	var l []api.Ins
	want := map[int]int{}
	for n := 1; n <= api.MaxLabels; n++ {
		l = append(l, jump(api.MaxLabels+1-n), label(n))
		want[n] = 2*n - 1
	}
	if got, errno := Labels(l); !maps.Equal(got, want) || errno != api.OK {
		t.Error(got, errno)
	}
	for n := 1; n <= api.MaxLabels; n++ {
		less := slices.Delete(slices.Clone(l), 2*n-1, 2*n)
		if got, errno := Labels(less); got != nil || errno != api.ErrLabel {
			t.Error(n, got, errno)
		}
		if got, errno := Labels(append(slices.Clone(l), label(n))); got != nil || errno != api.ErrLabel {
			t.Error(n, got, errno)
		}
	}
}

// R1

func TestListsInThemselves(t *testing.T) {
	l := []api.Arg{of(api.TagF, 1), list(), of(api.TagF, 2)}
	l[1].L = l
	around := []api.Ins{label(1), label(2), ins(18, l...), end}
	if _, errno := Put(around); errno != api.ErrOperand {
		t.Error(errno)
	}
	if got, errno := Labels(around); !maps.Equal(got, map[int]int{1: 0, 2: 1}) || errno != api.OK {
		t.Error(got, errno)
	}
	if got, errno := Labels(around[1:]); got != nil || errno != api.ErrLabel {
		t.Error(got, errno)
	}
}

func TestListsInManyPlaces(t *testing.T) {
	l := []api.Arg{of(api.TagF, 1)}
	for range 100 {
		l = []api.Arg{list(l...), list(l...)}
	}
	for n, want := range map[int]api.Errno{1: api.OK, 2: api.ErrLabel} {
		if _, errno := Labels([]api.Ins{label(n), ins(18, l...)}); errno != want {
			t.Error(n, errno)
		}
	}
}

func TestDeepLists(t *testing.T) {
	a := of(api.TagF, 1)
	for range 1000000 {
		a = list(a)
	}
	for n, want := range map[int]api.Errno{1: api.OK, 2: api.ErrLabel} {
		if _, errno := Labels([]api.Ins{label(n), ins(18, a)}); errno != want {
			t.Error(n, errno)
		}
	}
}

// R3

func TestPutAndLabelsLeaveTheirArguments(t *testing.T) {
	d := dice(5)
	for range 500 {
		l := d.whole(8)
		l = append(l, ins(18, list(list(of(api.TagF, 1)))), jump(1), label(1))
		was := clone(l)
		Put(l)
		Put(l[:len(l)-3])
		Labels(l)
		if !same(l, was) {
			t.Fatal(l, was)
		}
	}
}

func TestAnswersAreNewMemory(t *testing.T) {
	d := dice(6)
	for range 500 {
		l := d.whole(8)
		b, _ := Put(l)
		again, _ := Put(l)
		was := slices.Clone(b)
		first, _, _ := Get(b)
		second, _, _ := Get(b)
		if !bytes.Equal(b, was) {
			t.Fatalf("% x, not % x", b, was)
		}
		clear(b[:cap(b)])
		if !bytes.Equal(again, was) || !same(first, l) {
			t.Fatal(again, first)
		}
		wipe(first)
		if !same(second, l) {
			t.Fatal(second, l)
		}
	}
}

func wipe(l []api.Ins) {
	for _, i := range l {
		for _, a := range i.Args {
			clear(a.L[:cap(a.L)])
		}
		clear(i.Args[:cap(i.Args)])
	}
	clear(l[:cap(l)])
}

// No two lists of one answer share memory, spare room neither.
func TestListsOfOneAnswerAreApart(t *testing.T) {
	l := slices.Repeat([]api.Ins{ins(18, list(of(api.TagX, 1), of(api.TagX, 2)), of(api.TagX, 3))}, 9)
	b, _ := Put(append(l, end))
	for n := range l {
		got, _, _ := Get(b)
		wipe(got[n : n+1 : n+1])
		if got[n].Op != 0 || !same(got[:n], l[:n]) || !same(got[n+1:9], l[n+1:]) {
			t.Fatal(n, got)
		}
	}
}

func TestLabelsAreNewMemory(t *testing.T) {
	l := []api.Ins{label(1), label(2)}
	first, _ := Labels(l)
	second, _ := Labels(l)
	clear(first)
	if !maps.Equal(second, map[int]int{1: 0, 2: 1}) {
		t.Error(second)
	}
}
