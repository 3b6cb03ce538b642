package compact

import (
	"bytes"
	"math"
	"math/big"
	"slices"
	"strings"
	"testing"

	"relict/api"
)

func of(tag, n int) api.Arg { return api.Arg{Tag: tag, N: n} }

func list(l ...api.Arg) api.Arg { return api.Arg{Tag: api.TagList, L: l} }

// times is a list of so many of one operand.
func times(n int, a api.Arg) api.Arg { return list(slices.Repeat([]api.Arg{a}, n)...) }

func same(a, b api.Arg) bool {
	return a.Tag == b.Tag && a.N == b.N && slices.EqualFunc(a.L, b.L, same)
}

func isZero(a api.Arg) bool { return a.Tag == 0 && a.N == 0 && a.L == nil }

// plainTags are those whose numbers are not below 0 and that have no byte of their own.
var plainTags = []int{api.TagU, api.TagA, api.TagX, api.TagY, api.TagF}

// dice throws the same operands and bytes at every run.
type dice uint64

func (d *dice) below(n int) int {
	*d = *d*6364136223846793005 + 1442695040888963407
	return int(uint64(*d)>>33) % n
}

// number has any number of bits up to most.
func (d *dice) number(most int) int {
	n := d.below(1<<30)<<30 | d.below(1<<30)
	return n & (1<<d.below(most+1) - 1)
}

func (d *dice) single() api.Arg {
	tag := d.below(7)
	if tag != api.TagI {
		return of(tag, d.number(28))
	}
	n := d.number(59)
	if d.below(2) == 0 {
		n = -n - 1
	}
	return of(tag, n)
}

func (d *dice) operand() api.Arg {
	if d.below(4) > 0 {
		return d.single()
	}
	var l []api.Arg
	for range d.below(6) {
		l = append(l, d.single())
	}
	return list(l...)
}

// spoil changes, cuts, or adds to bytes.
func (d *dice) spoil(b []byte) []byte {
	b = slices.Clone(b)
	at := d.below(len(b))
	switch d.below(5) {
	case 0:
		b[at] = byte(d.below(256))
	case 1:
		b[at] ^= 1 << d.below(8)
	case 2:
		b = b[:at]
	case 3:
		b = slices.Insert(b, at, []byte{0, 0xff, 23, 71}[d.below(4)])
	case 4:
		b = slices.Delete(b, at, at+1)
	}
	return b
}

// putWords is Put's number by its words.
func putWords(tag, n int) string {
	switch {
	case 0 <= n && n <= 15:
		return string([]byte{byte(16*n + tag)})
	case tag != 1 && n < 2048:
		return string([]byte{byte(32*(n/256) + 8 + tag), byte(n % 256)})
	}
	for size := 2; ; size++ {
		whole := new(big.Int).Exp(big.NewInt(256), big.NewInt(int64(size)), nil)
		v := big.NewInt(int64(n))
		if tag == 1 && n < 0 {
			v.Add(v, whole)
		}
		if v.Sign() < 0 || v.Cmp(whole) >= 0 {
			continue
		}
		if tag == 1 && (v.Bit(8*size-1) == 1) != (n < 0) {
			continue
		}
		return string([]byte{byte(32*(size-2) + 24 + tag)}) + string(v.FillBytes(make([]byte, size)))
	}
}

func putByWords(a api.Arg) string {
	switch a.Tag {
	case 6:
		return "\x47" + putWords(0, a.N)
	case 7:
		s := "\x17" + putWords(0, len(a.L))
		for _, x := range a.L {
			s += putByWords(x)
		}
		return s
	}
	return putWords(a.Tag, a.N)
}

// getNumber is Get's number by its words; tags are those that may stand there. It answers what is left.
func getNumber(s string, tags ...int) (api.Arg, string, api.Errno) {
	if s == "" {
		return api.Arg{}, "", api.ErrShort
	}
	first := int(s[0])
	tag := first % 8
	if !slices.Contains(tags, tag) {
		return api.Arg{}, "", api.ErrBytes
	}
	size, n := 1, big.NewInt(int64(first/16))
	switch first / 8 % 4 {
	case 1:
		if tag == 1 {
			return api.Arg{}, "", api.ErrBytes
		}
		size, n = 2, big.NewInt(int64(first/32))
	case 3:
		most := 4
		if tag == 1 {
			most = 8
		}
		if first/32+2 > most {
			return api.Arg{}, "", api.ErrBytes
		}
		size, n = first/32+3, new(big.Int)
	}
	if size > len(s) {
		return api.Arg{}, "", api.ErrShort
	}
	for _, x := range []byte(s[1:size]) {
		n.Mul(n, big.NewInt(256)).Add(n, big.NewInt(int64(x)))
	}
	if tag == 1 && size > 1 && n.Bit(8*size-9) == 1 {
		n.Sub(n, new(big.Int).Lsh(big.NewInt(1), uint(8*size-8)))
	}
	least, most := int64(0), int64(1<<28-1)
	if tag == 1 {
		least, most = -1<<59, 1<<59-1
	}
	if n.Cmp(big.NewInt(least)) < 0 || n.Cmp(big.NewInt(most)) > 0 || putWords(tag, int(n.Int64())) != s[:size] {
		return api.Arg{}, "", api.ErrBytes
	}
	return of(tag, int(n.Int64())), s[size:], api.OK
}

func getSingle(s string) (api.Arg, string, api.Errno) {
	if rest, ok := strings.CutPrefix(s, "\x47"); ok {
		a, rest, errno := getNumber(rest, 0)
		if errno != api.OK {
			return api.Arg{}, "", errno
		}
		return of(6, a.N), rest, api.OK
	}
	return getNumber(s, 0, 1, 2, 3, 4, 5)
}

// getByWords is Get at 0 by its words.
func getByWords(s string) (api.Arg, int, api.Errno) {
	a, rest, errno := api.Arg{}, "", api.OK
	if behind, ok := strings.CutPrefix(s, "\x17"); ok {
		var many api.Arg
		many, rest, errno = getNumber(behind, 0)
		if errno == api.OK && many.N > 40 {
			errno = api.ErrBytes
		}
		a.Tag = 7
		for i := 0; i < many.N && errno == api.OK; i++ {
			var x api.Arg
			x, rest, errno = getSingle(rest)
			a.L = append(a.L, x)
		}
	} else {
		a, rest, errno = getSingle(s)
	}
	if errno != api.OK {
		return api.Arg{}, 0, errno
	}
	return a, len(s) - len(rest), api.OK
}

func holdAgainstWords(t *testing.T, b []byte) api.Errno {
	t.Helper()
	a, at, errno := Get(b, 0)
	want, wantAt, wantErrno := getByWords(string(b))
	if !same(a, want) || at != wantAt || errno != wantErrno {
		t.Fatalf("Get(% x): %v %d %d, not %v %d %d", b, a, at, errno, want, wantAt, wantErrno)
	}
	if errno != api.OK && !isZero(a) {
		t.Fatalf("Get(% x): %v beside %d", b, a, errno)
	}
	return errno
}

// P6.1

func TestCheckTags(t *testing.T) {
	for tag := -3; tag <= 12; tag++ {
		if got := Check(of(tag, 0)); got != (0 <= tag && tag <= 7) {
			t.Error(tag, got)
		}
	}
	for _, tag := range []int{math.MinInt, math.MaxInt, 256, 1 << 32, -8} {
		if Check(of(tag, 0)) {
			t.Error(tag)
		}
	}
}

func TestCheckNumbers(t *testing.T) {
	for _, tag := range append([]int{api.TagL}, plainTags...) {
		for n, want := range map[int]bool{0: true, 1: true, 16: true, 1<<28 - 1: true, 1 << 28: false, 1<<28 + 1: false, -1: false, 1 << 32: false, math.MaxInt: false, math.MinInt: false} {
			if Check(of(tag, n)) != want {
				t.Error(tag, n)
			}
		}
	}
	for n, want := range map[int]bool{0: true, -1: true, 1<<59 - 1: true, 1 << 59: false, -1 << 59: true, -1<<59 - 1: false, math.MaxInt: false, math.MinInt: false} {
		if Check(of(api.TagI, n)) != want {
			t.Error(n)
		}
	}
	for _, n := range []int{1, -1, math.MaxInt, math.MinInt} {
		if Check(of(api.TagList, n)) {
			t.Error(n)
		}
	}
}

func TestCheckLists(t *testing.T) {
	one := []api.Arg{of(api.TagU, 0)}
	for tag := range 7 {
		if Check(api.Arg{Tag: tag, L: one}) || Check(list(api.Arg{Tag: tag, L: one})) {
			t.Error(tag)
		}
		if !Check(api.Arg{Tag: tag, L: []api.Arg{}}) || !Check(list(api.Arg{Tag: tag, L: []api.Arg{}})) {
			t.Error(tag)
		}
	}
	good, wrong := of(api.TagX, 1), of(api.TagX, -1)
	for i, x := range []struct {
		a    api.Arg
		want bool
	}{
		{list(), true},
		{api.Arg{Tag: api.TagList, L: []api.Arg{}}, true},
		{list(of(0, 1), of(1, -1), of(2, 3), of(3, 4), of(4, 5), of(5, 6), of(6, 7)), true},
		{times(api.MaxList, good), true},
		{times(api.MaxList+1, good), false},
		{list(list()), false},
		{list(good, list()), false},
		{list(good, list(good)), false},
		{list(wrong), false},
		{list(good, wrong, good), false},
		{list(wrong, good), false},
		{list(good, wrong), false},
		{list(of(8, 0)), false},
		{list(of(-1, 0)), false},
		{list(of(api.TagI, 1<<59)), false},
		{list(of(api.TagL, 1<<28)), false},
		{api.Arg{Tag: api.TagList, N: 1, L: []api.Arg{good}}, false},
		{api.Arg{Tag: api.TagList, N: -1, L: []api.Arg{good}}, false},
	} {
		if Check(x.a) != x.want {
			t.Error(i, x.a)
		}
	}
}

// P6.2

func TestExamples(t *testing.T) {
	if b := Put(nil, of(api.TagX, 3)); string(b) != "\x33" {
		t.Errorf("% x", b)
	}
	if b := Put(nil, of(api.TagI, -1)); string(b) != "\x19\xff\xff" {
		t.Errorf("% x", b)
	}
}

func TestPutPlain(t *testing.T) {
	for _, tag := range plainTags {
		for n, want := range map[int][]byte{
			0:         {0x00},
			1:         {0x10},
			15:        {0xf0},
			16:        {0x08, 0x10},
			255:       {0x08, 0xff},
			256:       {0x28, 0x00},
			2047:      {0xe8, 0xff},
			2048:      {0x18, 0x08, 0x00},
			65535:     {0x18, 0xff, 0xff},
			65536:     {0x38, 0x01, 0x00, 0x00},
			0x8000:    {0x18, 0x80, 0x00},
			1<<24 - 1: {0x38, 0xff, 0xff, 0xff},
			1 << 24:   {0x58, 0x01, 0x00, 0x00, 0x00},
			1<<28 - 1: {0x58, 0x0f, 0xff, 0xff, 0xff},
		} {
			want = slices.Clone(want)
			want[0] |= byte(tag)
			if b := Put(nil, of(tag, n)); !bytes.Equal(b, want) {
				t.Errorf("%d %d: % x, not % x", tag, n, b, want)
			}
		}
	}
}

func TestPutIntegers(t *testing.T) {
	for n, want := range map[int]string{
		0:         "\x01",
		15:        "\xf1",
		16:        "\x19\x00\x10",
		127:       "\x19\x00\x7f",
		255:       "\x19\x00\xff",
		2047:      "\x19\x07\xff",
		32767:     "\x19\x7f\xff",
		32768:     "\x39\x00\x80\x00",
		65535:     "\x39\x00\xff\xff",
		-1:        "\x19\xff\xff",
		-2:        "\x19\xff\xfe",
		-16:       "\x19\xff\xf0",
		-32768:    "\x19\x80\x00",
		-32769:    "\x39\xff\x7f\xff",
		1<<23 - 1: "\x39\x7f\xff\xff",
		1 << 23:   "\x59\x00\x80\x00\x00",
		1<<31 - 1: "\x59\x7f\xff\xff\xff",
		1 << 31:   "\x79\x00\x80\x00\x00\x00",
		1 << 39:   "\x99\x00\x80\x00\x00\x00\x00",
		1 << 47:   "\xb9\x00\x80\x00\x00\x00\x00\x00",
		1 << 55:   "\xd9\x00\x80\x00\x00\x00\x00\x00\x00",
		-1 << 55:  "\xb9\x80\x00\x00\x00\x00\x00\x00",
		1<<59 - 1: "\xd9\x07\xff\xff\xff\xff\xff\xff\xff",
		-1 << 59:  "\xd9\xf8\x00\x00\x00\x00\x00\x00\x00",
	} {
		if b := Put(nil, of(api.TagI, n)); string(b) != want {
			t.Errorf("%d: % x, not % x", n, b, want)
		}
	}
}

func TestPutLiteralsAndLists(t *testing.T) {
	for i, x := range []struct {
		a    api.Arg
		want string
	}{
		{of(api.TagL, 0), "\x47\x00"},
		{of(api.TagL, 15), "\x47\xf0"},
		{of(api.TagL, 16), "\x47\x08\x10"},
		{of(api.TagL, 2048), "\x47\x18\x08\x00"},
		{of(api.TagL, 1<<28-1), "\x47\x58\x0f\xff\xff\xff"},
		{list(), "\x17\x00"},
		{list(of(api.TagF, 2)), "\x17\x10\x25"},
		{list(of(api.TagL, 2), of(api.TagI, 16), of(api.TagY, 300)), "\x17\x30\x47\x20\x19\x00\x10\x2c\x2c"},
		{times(15, of(api.TagX, 1)), "\x17\xf0" + strings.Repeat("\x13", 15)},
		{times(16, of(api.TagX, 1)), "\x17\x08\x10" + strings.Repeat("\x13", 16)},
		{times(40, of(api.TagX, 1)), "\x17\x08\x28" + strings.Repeat("\x13", 40)},
	} {
		if b := Put([]byte("ahead"), x.a); string(b) != "ahead"+x.want {
			t.Errorf("%d: % x, not % x", i, b, x.want)
		}
	}
}

func TestPutOfOthers(t *testing.T) {
	for i, a := range []api.Arg{
		of(-1, 0), of(8, 3), of(api.TagX, -1), of(api.TagX, 1<<28), of(api.TagL, 1<<28), of(api.TagI, 1<<59), of(api.TagI, -1<<59-1), of(api.TagI, math.MinInt), of(api.TagI, math.MaxInt),
		of(api.TagList, 1), list(list()), list(of(api.TagX, 1), of(api.TagX, -1)), times(41, of(api.TagX, 1)), {Tag: api.TagX, L: []api.Arg{{}}},
	} {
		for _, ahead := range []string{"", "ahead"} {
			if b := Put([]byte(ahead), a); string(b) != ahead {
				t.Errorf("%d: % x", i, b)
			}
		}
	}
}

func TestPutByItsWords(t *testing.T) {
	for _, tag := range []int{0, 1, 2, 3, 4, 5, 6} {
		for bits := range 60 {
			for _, n := range []int{1<<bits - 2, 1<<bits - 1, 1 << bits, 1<<bits + 1} {
				for _, a := range []api.Arg{of(tag, n), of(tag, -n)} {
					if !Check(a) {
						continue
					}
					if b := Put(nil, a); string(b) != putByWords(a) {
						t.Fatalf("%v: % x, not % x", a, b, putByWords(a))
					}
				}
			}
		}
		for n := -70000; n <= 70000; n++ {
			if a := of(tag, n); Check(a) && string(Put(nil, a)) != putByWords(a) {
				t.Fatalf("%v: % x, not % x", a, Put(nil, a), putByWords(a))
			}
		}
	}
	d := dice(1)
	for range 20000 {
		if a := d.operand(); string(Put(nil, a)) != putByWords(a) {
			t.Fatalf("%v: % x, not % x", a, Put(nil, a), putByWords(a))
		}
	}
}

// P6.3

func TestGetPlaces(t *testing.T) {
	b := []byte("\x33\x19\xff\xff\x47\x20")
	for _, x := range []struct {
		at    int
		a     api.Arg
		next  int
		errno api.Errno
	}{
		{0, of(api.TagX, 3), 1, api.OK},
		{1, of(api.TagI, -1), 4, api.OK},
		{2, api.Arg{}, 0, api.ErrBytes},
		{4, of(api.TagL, 2), 6, api.OK},
		{5, of(api.TagU, 2), 6, api.OK},
		{6, api.Arg{}, 0, api.ErrShort},
		{7, api.Arg{}, 0, api.ErrArg},
		{-1, api.Arg{}, 0, api.ErrArg},
		{math.MaxInt, api.Arg{}, 0, api.ErrArg},
		{math.MinInt, api.Arg{}, 0, api.ErrArg},
	} {
		if a, next, errno := Get(b, x.at); !same(a, x.a) || next != x.next || errno != x.errno {
			t.Error(x.at, a, next, errno)
		}
	}
	for at, want := range map[int]api.Errno{0: api.ErrShort, 1: api.ErrArg, -1: api.ErrArg} {
		if _, _, errno := Get(nil, at); errno != want {
			t.Error(at, errno)
		}
	}
}

func TestGetFirstBytes(t *testing.T) {
	for first := range 256 {
		want := api.ErrShort
		switch tag := first % 8; {
		case first == 23 || first == 71:
		case tag == 6 || tag == 7:
			want = api.ErrBytes
		case first&8 == 0:
			want = api.OK
		case tag == 1 && (first&16 == 0 || first>>5+2 > 8):
			want = api.ErrBytes
		case tag != 1 && first&16 != 0 && first>>5+2 > 4:
			want = api.ErrBytes
		}
		if _, _, errno := Get([]byte{byte(first)}, 0); errno != want {
			t.Errorf("%x: %d, not %d", first, errno, want)
		}
	}
}

func TestGetRefuses(t *testing.T) {
	for _, x := range []struct {
		b    string
		want api.Errno
	}{
		{"\x08\x00", api.ErrBytes},
		{"\x08\x0f", api.ErrBytes},
		{"\x08\x10", api.OK},
		{"\x28\x00", api.OK},
		{"\x18\x07\xff", api.ErrBytes},
		{"\x18\x00\x00", api.ErrBytes},
		{"\x18\x07", api.ErrShort},
		{"\x18\x08\x00", api.OK},
		{"\x38\x00\xff\xff", api.ErrBytes},
		{"\x38\x00\xff", api.ErrShort},
		{"\x58\x00\xff\xff\xff", api.ErrBytes},
		{"\x58\x0f\xff\xff\xff", api.OK},
		{"\x58\x10\x00\x00\x00", api.ErrBytes},
		{"\x58\xff\xff\xff\xff", api.ErrBytes},
		{"\x58\x10\x00\x00", api.ErrShort},
		{"\x78\x00", api.ErrBytes},
		{"\xf8\x00\x00\x00\x00\x00\x00\x00\x00\x00", api.ErrBytes},
		{"\x19\x00\x00", api.ErrBytes},
		{"\x19\x00\x0f", api.ErrBytes},
		{"\x19\x00\x10", api.OK},
		{"\x19\x00", api.ErrShort},
		{"\x39\x00\x7f\xff", api.ErrBytes},
		{"\x39\x00\x80\x00", api.OK},
		{"\x39\xff\x80\x00", api.ErrBytes},
		{"\x39\xff\x7f\xff", api.OK},
		{"\xd9\x07\xff\xff\xff\xff\xff\xff\xff", api.OK},
		{"\xd9\x08\x00\x00\x00\x00\x00\x00\x00", api.ErrBytes},
		{"\xd9\xf8\x00\x00\x00\x00\x00\x00\x00", api.OK},
		{"\xd9\xf7\xff\xff\xff\xff\xff\xff\xff", api.ErrBytes},
		{"\xd9\x80\x00\x00\x00\x00\x00\x00\x00", api.ErrBytes},
		{"\xd9\x7f\xff\xff\xff\xff\xff\xff\xff", api.ErrBytes},
		{"\xd9\x00\x7f\xff\xff\xff\xff\xff\xff", api.ErrBytes},
		{"\xd9\xff\x80\x00\x00\x00\x00\x00\x00", api.ErrBytes},
		{"\xd9\xf7\xff\xff\xff\xff\xff\xff", api.ErrShort},
		{"\xf9\x00", api.ErrBytes},
	} {
		if errno := holdAgainstWords(t, []byte(x.b)); errno != x.want {
			t.Errorf("% x: %d, not %d", x.b, errno, x.want)
		}
	}
}

func TestGetRefusesLiteralsAndLists(t *testing.T) {
	for _, x := range []struct {
		b    string
		want api.Errno
	}{
		{"\x47", api.ErrShort},
		{"\x47\x08", api.ErrShort},
		{"\x47\x08\x0f", api.ErrBytes},
		{"\x47\x58\x10\x00\x00\x00", api.ErrBytes},
		{"\x47\x78", api.ErrBytes},
		{"\x47\x01", api.ErrBytes},
		{"\x47\x19", api.ErrBytes},
		{"\x47\x3d", api.ErrBytes},
		{"\x47\x06", api.ErrBytes},
		{"\x47\x17", api.ErrBytes},
		{"\x47\x47", api.ErrBytes},
		{"\x17", api.ErrShort},
		{"\x17\x08", api.ErrShort},
		{"\x17\x08\x0f", api.ErrBytes},
		{"\x17\x28", api.ErrShort},
		{"\x17\x28\x28", api.ErrBytes},
		{"\x17\x18\x08", api.ErrShort},
		{"\x17\x18\x08\x00", api.ErrBytes},
		{"\x17\x78", api.ErrBytes},
		{"\x17\x11\x00", api.ErrBytes},
		{"\x17\x13\x00", api.ErrBytes},
		{"\x17\x19", api.ErrBytes},
		{"\x17\x17", api.ErrBytes},
		{"\x17\x47\x10\x00", api.ErrBytes},
		{"\x17\x08\x28", api.ErrShort},
		{"\x17\x08\x29", api.ErrBytes},
		{"\x17\x08\x29" + strings.Repeat("\x00", 41), api.ErrBytes},
		{"\x17\x10", api.ErrShort},
		{"\x17\x10\x17", api.ErrBytes},
		{"\x17\x10\x17\x00", api.ErrBytes},
		{"\x17\x10\x06", api.ErrBytes},
		{"\x17\x20\x47", api.ErrShort},
		{"\x17\x20\x47\x20", api.ErrShort},
		{"\x17\x20\x47\x20\x08\x00", api.ErrBytes},
		{"\x17\x20\x06\x18", api.ErrBytes},
		{"\x17\x20\x18\x06", api.ErrShort},
		{"\x17\x20\x18\x06\x00\x06", api.ErrBytes},
		{"\x17\x20\x00\x10\x06", api.OK},
		{"\x17\x00\x06", api.OK},
	} {
		if errno := holdAgainstWords(t, []byte(x.b)); errno != x.want {
			t.Errorf("% x: %d, not %d", x.b, errno, x.want)
		}
	}
}

func TestGetOfAllShortBytes(t *testing.T) {
	holdAgainstWords(t, nil)
	for first := range 256 {
		holdAgainstWords(t, []byte{byte(first)})
		for second := range 256 {
			holdAgainstWords(t, []byte{byte(first), byte(second)})
			for _, third := range []byte{0, 0x0f, 0x10, 0x17, 0x28, 0x29, 0x47, 0x7f, 0x80, 0xff} {
				holdAgainstWords(t, []byte{byte(first), byte(second), third})
			}
		}
	}
}

func TestGetByItsWords(t *testing.T) {
	d := dice(2)
	told := map[api.Errno]int{}
	for range 200000 {
		b := Put(nil, d.operand())
		for range d.below(3) {
			if len(b) > 0 {
				b = d.spoil(b)
			}
		}
		told[holdAgainstWords(t, b)]++
	}
	for _, errno := range []api.Errno{api.OK, api.ErrShort, api.ErrBytes} {
		if told[errno] < 10000 {
			t.Error("too few of", errno, told)
		}
	}
}

// P6.4

func TestPutIsGot(t *testing.T) {
	d := dice(3)
	for range 20000 {
		a := d.operand()
		b := Put([]byte("ahead"), a)
		end := len(b)
		b = append(b, "behind"...)
		if got, at, errno := Get(b, 5); !same(got, a) || at != end || errno != api.OK {
			t.Fatalf("%v: %v %d %d", a, got, at, errno)
		}
		for cut := 5; cut < end; cut++ {
			if got, at, errno := Get(b[:cut], 5); !isZero(got) || at != 0 || errno != api.ErrShort {
				t.Fatalf("%v cut at %d: %v %d %d", a, cut, got, at, errno)
			}
		}
	}
}

func TestGotIsPutByteForByte(t *testing.T) {
	d := dice(4)
	taken := 0
	for range 50000 {
		b := d.spoil(Put(nil, d.operand()))
		a, at, errno := Get(b, 0)
		if errno != api.OK {
			continue
		}
		taken++
		if !Check(a) || !bytes.Equal(Put(nil, a), b[:at]) {
			t.Fatalf("% x: %v, % x", b, a, Put(nil, a))
		}
	}
	if taken < 1000 {
		t.Error("too few taken", taken)
	}
}

// R1

func TestListsInThemselves(t *testing.T) {
	l := []api.Arg{{Tag: api.TagList}}
	l[0].L = l
	if Check(l[0]) || len(Put(nil, l[0])) != 0 {
		t.Error("taken")
	}
}

// R3

func TestPutLeavesSpareRoom(t *testing.T) {
	for _, a := range []api.Arg{of(api.TagX, 3), of(api.TagI, -1), of(api.TagL, 1), list(of(api.TagX, 1)), of(8, 0)} {
		room := []byte("ahead*****")
		b := Put(room[:5], a)
		if string(room) != "ahead*****" {
			t.Errorf("%v: %q", a, room)
		}
		_ = append(b, "behind"...)
		if string(room) != "ahead*****" {
			t.Errorf("%v: %q", a, room)
		}
	}
}

func TestPutAndGetLeaveAndKeepNothing(t *testing.T) {
	a := list(of(api.TagX, 1), of(api.TagI, -1))
	b := Put(nil, a)
	if !same(a, list(of(api.TagX, 1), of(api.TagI, -1))) {
		t.Error(a)
	}
	was := slices.Clone(b)
	first, _, _ := Get(b, 0)
	second, _, _ := Get(b, 0)
	if !bytes.Equal(b, was) {
		t.Errorf("% x", b)
	}
	clear(b)
	clear(first.L[:cap(first.L)])
	if !same(second, a) {
		t.Error(second)
	}
}
