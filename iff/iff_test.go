package iff

import (
	"bytes"
	"encoding/binary"
	"fmt"
	"slices"
	"strings"
	"testing"

	"relict/api"
)

func four(n int) string { return string(binary.BigEndian.AppendUint32(nil, uint32(n))) }

// file is chunks' bytes as a file.
func file(s string) string { return "FOR1" + four(len(s)+4) + "BEAM" + s }

// chunk is a chunk's bytes, with data and what fills up.
func chunk(name string, n int, rest string) string { return name + four(n) + rest }

// numbered is a name of its own for each number.
func numbered(i int) string { return fmt.Sprintf("%04d", i) }

// many are so many chunks without data.
func many(n int) []api.Chunk {
	var l []api.Chunk
	for i := range n {
		l = append(l, api.Chunk{Name: numbered(i)})
	}
	return l
}

func of(name string, n int) api.Chunk { return api.Chunk{Name: name, Data: strings.Repeat("x", n)} }

// dice throws the same chunks and bytes at every run.
type dice uint64

func (d *dice) below(n int) int {
	*d = *d*6364136223846793005 + 1442695040888963407
	return int(uint64(*d)>>33) % n
}

func (d *dice) text(n, low, high int) string {
	var b []byte
	for range n {
		b = append(b, byte(low+d.below(high-low+1)))
	}
	return string(b)
}

// chunks are some with names of their own.
func (d *dice) chunks() []api.Chunk {
	var l []api.Chunk
	for i := range d.below(6) {
		name := d.text(3, 32, 126) + string(rune('a'+i))
		l = append(l, api.Chunk{Name: name, Data: d.text(d.below(10), 0, 255)})
	}
	return l
}

// spoil changes, cuts or adds to a file, and often mends its length then.
func (d *dice) spoil(b []byte) []byte {
	b = slices.Clone(b)
	at := d.below(len(b))
	switch d.below(5) {
	case 0:
		b[at] = byte(d.below(256))
	case 1:
		b[at] = 0
	case 2:
		b = b[:at]
	case 3:
		b = slices.Insert(b, at, byte(d.below(3)))
	case 4:
		b = append(b, b[min(len(b), 12):]...)
	}
	if len(b) >= 8 && d.below(4) > 0 {
		binary.BigEndian.PutUint32(b[4:], uint32(len(b)-8))
	}
	return b
}

// parsed is Parse by its words, slowly: what is wrong with one chunk is looked for in full at each.
func parsed(b string) ([]api.Chunk, api.Errno) {
	if len(b) > 65536 {
		return nil, api.ErrBig
	}
	if len(b) < 12 {
		return nil, api.ErrShort
	}
	if b[0:4] != "FOR1" || b[8:12] != "BEAM" || b[4:8] != four(len(b)-8) {
		return nil, api.ErrForm
	}
	var l []api.Chunk
	for at := 12; at < len(b); {
		if len(b)-at < 8 {
			return nil, api.ErrShort
		}
		name := b[at : at+4]
		n := uint64(binary.BigEndian.Uint32([]byte(b[at+4 : at+8])))
		whole := n
		for whole%4 != 0 {
			whole++
		}
		if whole > uint64(len(b)-at-8) {
			return nil, api.ErrShort
		}
		data, fill := b[at+8:at+8+int(n)], b[at+8+int(n):at+8+int(whole)]
		if strings.IndexFunc(name, func(r rune) bool { return r < 32 || r > 126 }) >= 0 || strings.Trim(fill, "\x00") != "" {
			return nil, api.ErrBytes
		}
		if slices.ContainsFunc(l, func(c api.Chunk) bool { return c.Name == name }) {
			return nil, api.ErrTwice
		}
		l = append(l, api.Chunk{Name: name, Data: data})
		at += 8 + int(whole)
	}
	return l, api.OK
}

// P5.1

func TestExample(t *testing.T) {
	b, errno := Make(nil)
	if len(b) != 12 || errno != api.OK || string(b) != "FOR1\x00\x00\x00\x04BEAM" {
		t.Errorf("% x %d", b, errno)
	}
	if l, errno := Parse(b); len(l) != 0 || errno != api.OK {
		t.Error(l, errno)
	}
}

func TestFile(t *testing.T) {
	for _, x := range []struct {
		l    []api.Chunk
		want string
	}{
		{[]api.Chunk{}, file("")},
		{[]api.Chunk{{Name: "Code"}}, file("Code\x00\x00\x00\x00")},
		{[]api.Chunk{{Name: "Code", Data: "a"}}, file("Code\x00\x00\x00\x01a\x00\x00\x00")},
		{[]api.Chunk{{Name: "Code", Data: "ab"}}, file("Code\x00\x00\x00\x02ab\x00\x00")},
		{[]api.Chunk{{Name: "Code", Data: "abc"}}, file("Code\x00\x00\x00\x03abc\x00")},
		{[]api.Chunk{{Name: "Code", Data: "abcd"}}, file("Code\x00\x00\x00\x04abcd")},
		{[]api.Chunk{{Name: "Code", Data: "abcde"}}, file("Code\x00\x00\x00\x05abcde\x00\x00\x00")},
		{[]api.Chunk{{Name: "Code", Data: "\x00\xff\x00"}}, file("Code\x00\x00\x00\x03\x00\xff\x00\x00")},
		{[]api.Chunk{{Name: "    ", Data: "1"}, {Name: "~~~~", Data: "2"}}, file("    \x00\x00\x00\x011\x00\x00\x00~~~~\x00\x00\x00\x012\x00\x00\x00")},
		{[]api.Chunk{{Name: "b123"}, {Name: "a123"}, {Name: "B123"}}, file("b123\x00\x00\x00\x00a123\x00\x00\x00\x00B123\x00\x00\x00\x00")},
		{[]api.Chunk{of("long", 300)}, file("long\x00\x00\x01\x2c" + strings.Repeat("x", 300))},
	} {
		if b, errno := Make(x.l); string(b) != x.want || errno != api.OK {
			t.Errorf("Make(%q): %q %d, not %q", x.l, b, errno, x.want)
		}
		if l, errno := Parse([]byte(x.want)); !slices.Equal(l, x.l) || errno != api.OK {
			t.Errorf("Parse(%q): %q %d", x.want, l, errno)
		}
	}
}

// P5.2

func TestParseRefuses(t *testing.T) {
	one := chunk("abcd", 2, "xy\x00\x00")
	big := chunk("abcd", api.MaxFile-20, strings.Repeat("x", api.MaxFile-20))
	for _, x := range []struct {
		b    string
		want api.Errno
	}{
		{strings.Repeat("x", api.MaxFile+1), api.ErrBig},
		{file(big) + "x", api.ErrBig},
		{file(big), api.OK},
		{"", api.ErrShort},
		{"FOR", api.ErrShort},
		{"xxxxxxxxxxx", api.ErrShort},
		{file("")[:11], api.ErrShort},
		{"FOR2" + four(4) + "BEAM", api.ErrForm},
		{"for1" + four(4) + "BEAM", api.ErrForm},
		{"FOR1" + four(4) + "BEAN", api.ErrForm},
		{"FOR1" + four(3) + "BEAM", api.ErrForm},
		{"FOR1" + four(5) + "BEAM", api.ErrForm},
		{"FOR1" + four(12) + "BEAM", api.ErrForm},
		{"FOR1\x04\x00\x00\x00BEAM", api.ErrForm},
		{"FOR1\x80\x00\x00\x04BEAM", api.ErrForm},
		{"FOR1\x00\x01\x00\x04BEAM" + chunk("abcd", 248, strings.Repeat("x", 248)), api.ErrForm},
		{"FOR1" + four(4) + "BEAM" + one, api.ErrForm},
		{"FOR1" + four(4) + "BEAM\x00", api.ErrForm},
		{"FOR1" + four(16) + "BEAM" + one + "x", api.ErrForm},
		{"BEAM" + four(4) + "FOR1", api.ErrForm},
		{file("a"), api.ErrShort},
		{file("\x00\x00\x00\x00"), api.ErrShort},
		{file("abcd\x00\x00\x00"), api.ErrShort},
		{file("abcd\x00\x00\x00\x00"), api.OK},
		{file(one[:11]), api.ErrShort},
		{file(one[:10]), api.ErrShort},
		{file(one[:9]), api.ErrShort},
		{file(one), api.OK},
		{file(chunk("abcd", 5, "xyzw")), api.ErrShort},
		{file(chunk("abcd", 5, "xyzw1\x00\x00")), api.ErrShort},
		{file(chunk("abcd", 1<<31-1, "xyzw")), api.ErrShort},
		{file(chunk("abcd", 1<<31, "xyzw")), api.ErrShort},
		{file(chunk("abcd", 1<<32-1, "xyzw")), api.ErrShort},
		{file(chunk("abcd", 1<<32-4, "xyzw")), api.ErrShort},
		{file(chunk("abcd", 1<<16, strings.Repeat("x", 256))), api.ErrShort},
		{file(chunk("abcd", 1<<24, strings.Repeat("x", 256))), api.ErrShort},
		{file(chunk("abcd", 1<<24+4, "xyzw")), api.ErrShort},
		{file(one + "x"), api.ErrShort},
		{file(one + one[:8]), api.ErrShort},
		{file(chunk("\x00bcd", 2, "xy\x00")), api.ErrShort},
		{file(chunk("abcd", 1, "x\x01\x00")), api.ErrShort},
		{file(chunk("\x1fbcd", 0, "")), api.ErrBytes},
		{file(chunk("a\x7fcd", 0, "")), api.ErrBytes},
		{file(chunk("ab\x80d", 0, "")), api.ErrBytes},
		{file(chunk("abc\xff", 0, "")), api.ErrBytes},
		{file(chunk("abc\n", 0, "")), api.ErrBytes},
		{file(chunk("abcé"[:4], 0, "")), api.ErrBytes},
		{file(chunk("abcd", 1, "x\x01\x00\x00")), api.ErrBytes},
		{file(chunk("abcd", 1, "x\x00\x01\x00")), api.ErrBytes},
		{file(chunk("abcd", 1, "x\x00\x00\x01")), api.ErrBytes},
		{file(chunk("abcd", 2, "xy\x00 ")), api.ErrBytes},
		{file(chunk("abcd", 3, "xyz\xff")), api.ErrBytes},
		{file(one + one), api.ErrTwice},
		{file(one + chunk("abcd", 0, "")), api.ErrTwice},
		{file(one + chunk("abce", 0, "") + one), api.ErrTwice},
		{file(one + chunk("abcD", 0, "")), api.OK},
	} {
		l, errno := Parse([]byte(x.b))
		if errno != x.want || (errno != api.OK && l != nil) {
			t.Errorf("Parse(%.60q): %d chunks, %d, not %d", x.b, len(l), errno, x.want)
		}
	}
}

// What is wrong first is told, chunk by chunk.
func TestParseTellsTheFirst(t *testing.T) {
	one, short, spoiled := chunk("abcd", 0, ""), chunk("efgh", 9, "x"), chunk("abcd", 1, "x\x00\x00\x01")
	for _, x := range []struct {
		b    string
		want api.Errno
	}{
		{strings.Repeat("\x00", api.MaxFile+1), api.ErrBig},
		{"XXXX\x00\x00\x00\x00XXX", api.ErrShort},
		{"FOR1" + four(0) + "BEAM\x00", api.ErrForm},
		{file(one + one + spoiled), api.ErrTwice},
		{file(one + one + short), api.ErrTwice},
		{file(one + spoiled + one), api.ErrBytes},
		{file(spoiled + one + one), api.ErrBytes},
		{file(spoiled + short), api.ErrBytes},
		{file(one + short), api.ErrShort},
		{file(chunk("\x00\x00\x00\x00", 9, "x")), api.ErrShort},
	} {
		if l, errno := Parse([]byte(x.b)); errno != x.want || l != nil {
			t.Errorf("Parse(%.60q): %q %d, not %d", x.b, l, errno, x.want)
		}
	}
}

func TestParseMany(t *testing.T) {
	most := many((api.MaxFile - 12) / 8)
	b, errno := Make(most)
	if len(b) != api.MaxFile-4 || errno != api.OK {
		t.Fatal(len(b), errno)
	}
	if l, errno := Parse(b); !slices.Equal(l, most) || errno != api.OK {
		t.Error(len(l), errno)
	}
	copy(b[len(b)-8:], "0000")
	if l, errno := Parse(b); l != nil || errno != api.ErrTwice {
		t.Error(len(l), errno)
	}
}

func TestParseByItsWords(t *testing.T) {
	d := dice(1)
	told := map[api.Errno]int{}
	for range 40000 {
		b, errno := Make(d.chunks())
		if errno != api.OK {
			t.Fatal(errno)
		}
		for range d.below(3) {
			if len(b) > 0 {
				b = d.spoil(b)
			}
		}
		l, errno := Parse(b)
		want, wantErrno := parsed(string(b))
		if !slices.Equal(l, want) || errno != wantErrno {
			t.Fatalf("Parse(%q): %q %d, not %q %d", b, l, errno, want, wantErrno)
		}
		told[errno]++
	}
	for _, errno := range []api.Errno{api.OK, api.ErrShort, api.ErrBytes, api.ErrForm, api.ErrTwice} {
		if told[errno] < 100 {
			t.Error("too few of", errno, told)
		}
	}
}

func TestParseCutAnywhere(t *testing.T) {
	whole := chunk("abcd", 5, "12345\x00\x00\x00") + chunk("efgh", 0, "") + chunk("ijkl", 4, "1234")
	ends := map[int]int{0: 0, 16: 1, 24: 2, 36: 3}
	for n := range len(whole) + 1 {
		l, errno := Parse([]byte(file(whole[:n])))
		if chunks, ok := ends[n]; ok && (len(l) != chunks || errno != api.OK) || !ok && (l != nil || errno != api.ErrShort) {
			t.Error(n, l, errno)
		}
	}
}

// P5.3

func TestMakeRefuses(t *testing.T) {
	for _, x := range []struct {
		l    []api.Chunk
		want api.Errno
	}{
		{[]api.Chunk{{}}, api.ErrArg},
		{[]api.Chunk{{Data: "x"}}, api.ErrArg},
		{[]api.Chunk{{Name: "abc"}}, api.ErrArg},
		{[]api.Chunk{{Name: "abcde"}}, api.ErrArg},
		{[]api.Chunk{{Name: "\x1fbcd"}}, api.ErrArg},
		{[]api.Chunk{{Name: "a\x7fcd"}}, api.ErrArg},
		{[]api.Chunk{{Name: "ab\x80d"}}, api.ErrArg},
		{[]api.Chunk{{Name: "abc\xff"}}, api.ErrArg},
		{[]api.Chunk{{Name: "abc\x00"}}, api.ErrArg},
		{[]api.Chunk{{Name: "abcé"}}, api.ErrArg},
		{[]api.Chunk{{Name: "abé"}}, api.ErrArg},
		{[]api.Chunk{of("abcd", 1), of("abcd", 1)}, api.ErrTwice},
		{[]api.Chunk{of("abcd", 1), of("abce", 1), of("abcd", 2)}, api.ErrTwice},
		{[]api.Chunk{of("abcd", 1), of("abcD", 1)}, api.OK},
		{[]api.Chunk{of("abcd", 1), of("abcd", 2), {Name: "x"}}, api.ErrTwice},
		{[]api.Chunk{of("abcd", 1), {Name: "x"}, of("abcd", 2)}, api.ErrArg},
		{[]api.Chunk{{Name: "x"}, {Name: "x"}}, api.ErrArg},
		{[]api.Chunk{of("abcd", api.MaxFile-23)}, api.OK},
		{[]api.Chunk{of("abcd", api.MaxFile-20)}, api.OK},
		{[]api.Chunk{of("abcd", api.MaxFile-19)}, api.ErrBig},
		{[]api.Chunk{of("abcd", api.MaxFile)}, api.ErrBig},
		{[]api.Chunk{of("abcd", api.MaxFile+1)}, api.ErrBig},
		{[]api.Chunk{of("abcd", api.MaxFile-28), of("efgh", 0)}, api.OK},
		{[]api.Chunk{of("abcd", api.MaxFile-32), of("efgh", 1)}, api.OK},
		{[]api.Chunk{of("abcd", api.MaxFile-28), of("efgh", 1)}, api.ErrBig},
		{[]api.Chunk{of("abcd", api.MaxFile-24), of("efgh", 0)}, api.ErrBig},
		{[]api.Chunk{of("abcd", api.MaxFile), {Name: "x"}}, api.ErrArg},
		{[]api.Chunk{of("abcd", api.MaxFile), of("abcd", 0)}, api.ErrTwice},
		{[]api.Chunk{of("abcd", api.MaxFile), of("efgh", 0), of("efgh", 0)}, api.ErrTwice},
		{many(8190), api.OK},
		{many(8191), api.ErrBig},
		{many(10000), api.ErrBig},
		{append(many(10000), api.Chunk{Name: "0000"}), api.ErrTwice},
		{append(many(10000), api.Chunk{Name: "00000"}), api.ErrArg},
	} {
		b, errno := Make(x.l)
		if errno != x.want || (errno == api.OK) != (b != nil) || len(b) > api.MaxFile {
			t.Errorf("%d chunks, the first %.20q: %d bytes, %d, not %d", len(x.l), x.l[0], len(b), errno, x.want)
		}
	}
}

func TestMakeTakesEachByteOfANameByItself(t *testing.T) {
	for at := range 4 {
		for c := range 256 {
			name := []byte("abcd")
			name[at] = byte(c)
			want, bytesWant := api.ErrArg, api.ErrBytes
			if 32 <= c && c <= 126 {
				want, bytesWant = api.OK, api.OK
			}
			if _, errno := Make([]api.Chunk{{Name: string(name)}}); errno != want {
				t.Errorf("Make with %q: %d", name, errno)
			}
			if _, errno := Parse([]byte(file(chunk(string(name), 0, "")))); errno != bytesWant {
				t.Errorf("Parse with %q: %d", name, errno)
			}
		}
	}
}

func TestFind(t *testing.T) {
	l := []api.Chunk{{Name: "aaaa", Data: "1"}, {Name: "bbbb"}, {Name: "aaaa", Data: "2"}, {Name: "no name", Data: "3"}, {Data: "4"}}
	for _, x := range []struct {
		l    []api.Chunk
		name string
		want string
		ok   bool
	}{
		{l, "aaaa", "1", true},
		{l[1:], "aaaa", "2", true},
		{l, "bbbb", "", true},
		{l, "no name", "3", true},
		{l, "", "4", true},
		{l, "cccc", "", false},
		{l, "aaa", "", false},
		{l, "AAAA", "", false},
		{l[:4], "", "", false},
		{nil, "", "", false},
		{nil, "aaaa", "", false},
	} {
		if data, ok := Find(x.l, x.name); data != x.want || ok != x.ok {
			t.Errorf("Find(%q, %q): %q %v", x.l, x.name, data, ok)
		}
	}
}

// P5.4

func TestMadeIsParsedAsItWas(t *testing.T) {
	d := dice(2)
	for range 5000 {
		l := d.chunks()
		b, errno := Make(l)
		if errno != api.OK {
			t.Fatal(errno)
		}
		if got, errno := Parse(b); !slices.Equal(got, l) || errno != api.OK {
			t.Fatalf("%q: %q %d", l, got, errno)
		}
		for _, c := range l {
			if data, ok := Find(l, c.Name); data != c.Data || !ok {
				t.Fatalf("%q in %q: %q", c.Name, l, data)
			}
		}
	}
}

func TestParsedIsMadeByteForByte(t *testing.T) {
	d := dice(3)
	taken := 0
	for range 20000 {
		b, _ := Make(d.chunks())
		b = d.spoil(b)
		l, errno := Parse(b)
		if errno != api.OK {
			continue
		}
		taken++
		if again, errno := Make(l); !bytes.Equal(again, b) || errno != api.OK {
			t.Fatalf("%q: %q %d", b, again, errno)
		}
	}
	if taken < 1000 {
		t.Error("too few taken", taken)
	}
}

// R3

func TestParseLeavesAndKeepsNothing(t *testing.T) {
	text := file(chunk("abcd", 2, "xy\x00\x00") + chunk("efgh", 1, "z\x00\x00\x00"))
	b := []byte(text + "spare")
	l, errno := Parse(b[:len(text)])
	if errno != api.OK || string(b) != text+"spare" {
		t.Fatalf("%q %d", b, errno)
	}
	clear(b)
	if want := []api.Chunk{{Name: "abcd", Data: "xy"}, {Name: "efgh", Data: "z"}}; !slices.Equal(l, want) {
		t.Errorf("%q", l)
	}
}

func TestMakeLeavesAndKeepsNothing(t *testing.T) {
	l := []api.Chunk{{Name: "abcd", Data: "xy"}, {Name: "efgh", Data: "z"}}
	was := slices.Clone(l)
	first, _ := Make(l)
	second, _ := Make(l)
	if !slices.Equal(l, was) {
		t.Errorf("%q", l)
	}
	kept := bytes.Clone(second)
	clear(first[:cap(first)])
	if !bytes.Equal(second, kept) {
		t.Errorf("%q", second)
	}
}
