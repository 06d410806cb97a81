package ops

import (
	"bytes"
	"encoding/binary"
	"math"
	"regexp"
	"slices"
	"strings"
	"testing"

	"anabranch/api"
)

const most = 1 << 20

var one = regexp.MustCompile(`\A[a-z0-9]{1,8}\z`)

// kinds, keys, elems and numbers are ordinary ones, those at the edges, and wrong ones.
func kinds() []int {
	return []int{api.Inc, api.Set, api.Add, api.Del, -1, -2, 4, 5, 127, 128, 256, 1 << 32, 1<<32 + 1, 1 << 62, math.MinInt, math.MinInt + 1, math.MaxInt}
}

func keys() []string {
	return []string{
		"a", "z", "0", "9", "ab", "a0", "k7z", "abcdefg", "abcdefgh", "01234567", "zzzzzzzz",
		"", "abcdefghi", "012345678", strings.Repeat("a", 128), "A", "Z", "aB", "Bcdefghi", "abcdefgH",
		"`", "{", "/", ":", "a`", "{a", "/0", "9:", " ", "a b", "a\x00", "\x00", "\x80", "a\xff", "\xe9a", "é", "aé", "日本", "a\n",
	}
}

func elems() []string {
	return []string{"", "x", "9", "abcdefgh", "abcdefghi", "X", "`", "x{", "/x", ":", "\x80", "xé", strings.Repeat("x", 200)}
}

func numbers() []int {
	return []int{0, 1, -1, 2, -2, 63, 64, -64, -65, 127, 128, 8191, 8192, -8192, -8193, most - 1, most, most + 1, -most + 1, -most, -most - 1, 1 << 32, math.MaxInt, math.MinInt, math.MinInt + 1}
}

// ops are all of these with one another.
func ops() []api.Op {
	var l []api.Op
	for _, kind := range kinds() {
		for _, key := range keys() {
			for _, elem := range elems() {
				for _, n := range numbers() {
					l = append(l, api.Op{Kind: kind, Key: key, Elem: elem, N: n})
				}
			}
		}
	}
	return l
}

// good are those that may be, by the chapter's words.
func good() []api.Op {
	return slices.DeleteFunc(ops(), func(o api.Op) bool { return !wantMay(o) })
}

func wantMay(o api.Op) bool {
	if !one.MatchString(o.Key) {
		return false
	}
	switch o.Kind {
	case 0:
		return o.N >= -1048576 && o.N <= 1048576 && o.N != 0 && o.Elem == ""
	case 1, 2, 3:
		return one.MatchString(o.Elem) && o.N == 0
	}
	return false
}

// wantPut is of one that may be; the library's varints are numbers as enc puts them, folded ones if they have a sign.
func wantPut(o api.Op) []byte {
	b := binary.AppendUvarint(nil, uint64(o.Kind))
	b = binary.AppendUvarint(b, uint64(len(o.Key)))
	b = append(b, o.Key...)
	if o.Kind == 0 {
		return binary.AppendVarint(b, int64(o.N))
	}
	b = binary.AppendUvarint(b, uint64(len(o.Elem)))
	return append(b, o.Elem...)
}

// wantGet reads what may be an operation, whether or not Put would have put it so, and then asks whether the bytes begin with its own.
func wantGet(b []byte) (api.Op, []byte, bool) {
	kind, size := binary.Uvarint(b)
	if size <= 0 || kind > 3 {
		return api.Op{}, nil, false
	}
	rest := b[size:]
	text := func() string {
		n, size := binary.Uvarint(rest)
		if size <= 0 || n > uint64(len(rest)-size) {
			return ""
		}
		s := string(rest[size : size+int(n)])
		rest = rest[size+int(n):]
		return s
	}
	o := api.Op{Kind: int(kind), Key: text()}
	if kind == 0 {
		n, _ := binary.Varint(rest)
		o.N = int(n)
	} else {
		o.Elem = text()
	}
	if !wantMay(o) {
		return api.Op{}, nil, false
	}
	behind, is := bytes.CutPrefix(b, wantPut(o))
	if !is {
		return api.Op{}, nil, false
	}
	return o, behind, true
}

// check asks that bytes are got as the chapter says.
func check(t *testing.T, b []byte) {
	t.Helper()
	want, wantBehind, is := wantGet(b)
	o, behind, err := Get(b)
	if is && (o != want || !bytes.Equal(behind, wantBehind) || err != api.OK) {
		t.Errorf("Get(%q) = %v, %q, %d, want %v, %q, OK", b, o, behind, err, want, wantBehind)
	}
	if !is && (o != (api.Op{}) || len(behind) != 0 || err != api.ErrForm) {
		t.Errorf("Get(%q) = %v, %q, %d, want noughts, nothing, ErrForm", b, o, behind, err)
	}
}

// none asks that bytes begin with no operation.
func none(t *testing.T, b string) {
	t.Helper()
	o, behind, err := Get([]byte(b))
	if o != (api.Op{}) || len(behind) != 0 || err != api.ErrForm {
		t.Errorf("Get(%q) = %v, %q, %d, want noughts, nothing, ErrForm", b, o, behind, err)
	}
}

// P5.1: from 1 to 8 signs, each from a to z, or from 0 to 9.
func TestKey(t *testing.T) {
	for _, s := range append(keys(), elems()...) {
		if got, want := Key(s), one.MatchString(s); got != want {
			t.Errorf("Key(%q) = %v, want %v", s, got, want)
		}
	}
	for long := range 12 {
		s := strings.Repeat("k", long)
		if got, want := Key(s), long >= 1 && long <= 8; got != want {
			t.Errorf("Key(%q) = %v, want %v", s, got, want)
		}
		// Each byte at each place.
		for i := range long {
			for x := range 256 {
				s := s[:i] + string([]byte{byte(x)}) + s[i+1:]
				want := long <= 8 && strings.Contains("abcdefghijklmnopqrstuvwxyz0123456789", string(rune(x)))
				if got := Key(s); got != want {
					t.Errorf("Key(%q) = %v, want %v", s, got, want)
				}
			}
		}
	}
	for _, s := range []string{"éééé", "ａｂｃ", "٣", "abcdefg\x00", strings.Repeat("a", 256), strings.Repeat("a", 1<<16+8)} {
		if Key(s) {
			t.Errorf("Key(%q)", s)
		}
	}
}

// P5.1: what an operation of each kind may have.
func TestMay(t *testing.T) {
	n := 0
	for _, o := range ops() {
		got, want := May(o), wantMay(o)
		if got != want {
			t.Errorf("May(%#v) = %v, want %v", o, got, want)
		}
		if got {
			n++
		}
	}
	if n == 0 {
		t.Error("no operation may be")
	}
}

// P5.1: the edges by name.
func TestMayEdges(t *testing.T) {
	for _, x := range []struct {
		o    api.Op
		want bool
	}{
		{api.Op{}, false},
		{api.Op{Kind: api.Inc, Key: "a", N: 1}, true},
		{api.Op{Kind: api.Inc, Key: "a", N: -1}, true},
		{api.Op{Kind: api.Inc, Key: "a"}, false},
		{api.Op{Kind: api.Inc, Key: "a", N: 1048576}, true},
		{api.Op{Kind: api.Inc, Key: "a", N: 1048577}, false},
		{api.Op{Kind: api.Inc, Key: "a", N: -1048576}, true},
		{api.Op{Kind: api.Inc, Key: "a", N: -1048577}, false},
		{api.Op{Kind: api.Inc, Key: "a", N: math.MaxInt}, false},
		{api.Op{Kind: api.Inc, Key: "a", N: math.MinInt}, false},
		{api.Op{Kind: api.Inc, Key: "a", Elem: "x", N: 1}, false},
		{api.Op{Kind: api.Inc, Key: "a", Elem: "X", N: 1}, false},
		{api.Op{Kind: api.Inc, Key: "a", Elem: "x"}, false},
		{api.Op{Kind: api.Inc, N: 1}, false},
		{api.Op{Kind: api.Inc, Key: "abcdefgh", N: 5}, true},
		{api.Op{Kind: api.Inc, Key: "abcdefghi", N: 5}, false},
		{api.Op{Kind: -1, Key: "a", N: 1}, false},
		{api.Op{Kind: -1, Key: "a", Elem: "x"}, false},
		{api.Op{Kind: api.Ops, Key: "a", N: 1}, false},
		{api.Op{Kind: api.Ops, Key: "a", Elem: "x"}, false},
		{api.Op{Kind: 5, Key: "a", Elem: "x"}, false},
		{api.Op{Kind: math.MaxInt, Key: "a", Elem: "x"}, false},
		{api.Op{Kind: math.MinInt, Key: "a", N: 1}, false},
	} {
		if got := May(x.o); got != x.want {
			t.Errorf("May(%v) = %v, want %v", x.o, got, x.want)
		}
	}
	for _, kind := range []int{api.Set, api.Add, api.Del} {
		for _, x := range []struct {
			o    api.Op
			want bool
		}{
			{api.Op{Kind: kind, Key: "a", Elem: "x"}, true},
			{api.Op{Kind: kind, Key: "a", Elem: "a"}, true},
			{api.Op{Kind: kind, Key: "abcdefgh", Elem: "01234567"}, true},
			{api.Op{Kind: kind, Key: "a"}, false},
			{api.Op{Kind: kind, Elem: "x"}, false},
			{api.Op{Kind: kind, Key: "a", Elem: "X"}, false},
			{api.Op{Kind: kind, Key: "a", Elem: "012345678"}, false},
			{api.Op{Kind: kind, Key: "A", Elem: "x"}, false},
			{api.Op{Kind: kind, Key: "a", Elem: "x", N: 1}, false},
			{api.Op{Kind: kind, Key: "a", Elem: "x", N: -1}, false},
			{api.Op{Kind: kind, Key: "a", Elem: "x", N: math.MinInt}, false},
			{api.Op{Kind: kind, Key: "a", N: 1}, false},
		} {
			if got := May(x.o); got != x.want {
				t.Errorf("May(%v) = %v, want %v", x.o, got, x.want)
			}
		}
	}
}

// The chapter's example.
func TestExample(t *testing.T) {
	o := api.Op{Kind: api.Inc, Key: "a", N: -1}
	if b, err := Put(o); !bytes.Equal(b, []byte{0, 1, 97, 1}) || err != api.OK {
		t.Error(b, err)
	}
	if got, behind, err := Get([]byte{0, 1, 97, 1}); got != o || len(behind) != 0 || err != api.OK {
		t.Error(got, behind, err)
	}
}

// P5.2: byte by byte.
func TestPutBytes(t *testing.T) {
	for _, x := range []struct {
		o api.Op
		b string
	}{
		{api.Op{Kind: api.Inc, Key: "a", N: 1}, "\x00\x01a\x02"},
		{api.Op{Kind: api.Inc, Key: "ab", N: 63}, "\x00\x02ab\x7e"},
		{api.Op{Kind: api.Inc, Key: "ab", N: -64}, "\x00\x02ab\x7f"},
		{api.Op{Kind: api.Inc, Key: "ab", N: 64}, "\x00\x02ab\x80\x01"},
		{api.Op{Kind: api.Inc, Key: "abcdefgh", N: 1048576}, "\x00\x08abcdefgh\x80\x80\x80\x01"},
		{api.Op{Kind: api.Inc, Key: "0", N: -1048576}, "\x00\x010\xff\xff\x7f"},
		{api.Op{Kind: api.Set, Key: "a", Elem: "x"}, "\x01\x01a\x01x"},
		{api.Op{Kind: api.Add, Key: "k9", Elem: "xyz"}, "\x02\x02k9\x03xyz"},
		{api.Op{Kind: api.Del, Key: "abcdefgh", Elem: "01234567"}, "\x03\x08abcdefgh\x0801234567"},
	} {
		if b, err := Put(x.o); string(b) != x.b || err != api.OK {
			t.Errorf("Put(%v) = %q, %d, want %q", x.o, b, err, x.b)
		}
		if o, behind, err := Get([]byte(x.b)); o != x.o || len(behind) != 0 || err != api.OK {
			t.Errorf("Get(%q) = %v, %q, %d, want %v", x.b, o, behind, err, x.o)
		}
	}
}

// P5.2: of those that may be the bytes; of all others, of whatever kind, ErrArg and nothing.
func TestPut(t *testing.T) {
	for _, o := range ops() {
		b, err := Put(o)
		if wantMay(o) {
			if want := wantPut(o); !bytes.Equal(b, want) || err != api.OK {
				t.Errorf("Put(%v) = %q, %d, want %q, OK", o, b, err, want)
			}
		} else if len(b) != 0 || err != api.ErrArg {
			t.Errorf("Put(%#v) = %q, %d, want nothing, ErrArg", o, b, err)
		}
	}
}

// P5.3, P5.4: what is put is got, whatever stands behind; a mere beginning of it is not.
func TestGet(t *testing.T) {
	behinds := []string{"", "\x00", "\x01", "a", "\x80", "\xff\xff\xff", "\x00\x01a\x01", strings.Repeat("z", 300)}
	for _, o := range good() {
		b, _ := Put(o)
		for _, s := range append(behinds, string(b)) {
			got, behind, err := Get(append(slices.Clone(b), s...))
			if got != o || string(behind) != s || err != api.OK {
				t.Errorf("Get of Put of %v with %q behind = %v, %q, %d", o, s, got, behind, err)
			}
		}
		for n := range b {
			none(t, string(b[:n]))
		}
	}
}

// P5.4: operations put one behind the other are got one behind the other.
func TestRow(t *testing.T) {
	l := good()
	var b []byte
	for _, o := range l {
		x, _ := Put(o)
		b = append(b, x...)
	}
	for i, o := range l {
		got, behind, err := Get(b)
		if got != o || err != api.OK || len(behind) >= len(b) {
			t.Fatalf("%d: %v, %d, want %v", i, got, err, o)
		}
		b = behind
	}
	if len(b) != 0 {
		t.Errorf("%d bytes are left", len(b))
	}
}

// P5.3: bytes that no operation's Put begins.
func TestGetNone(t *testing.T) {
	for _, b := range []string{
		"", "\x00", "\x03", "\x00\x01", "\x00\x01a", "\x01\x01a", "\x01\x01a\x01", "\x01\x01a\x02x",
		// A kind that is none, and kinds that are not as Num has them.
		"\x04\x01a\x01x", "\x04\x01a\x02", "\x05\x01a\x01x", "\x7f\x01a\x02", "\x80\x01\x01a\x02", "\x80\x02\x01a\x02",
		"\x80\x00\x01a\x02", "\x81\x00\x01a\x01x", "\x83\x80\x00\x01a\x01x",
		"\x80\x80\x80\x80\x10\x01a\x02", "\x81\x80\x80\x80\x10\x01a\x01x",
		"\x80\x80\x80\x80\x80\x80\x80\x80\x80\x01\x01a\x02", "\x81\x80\x80\x80\x80\x80\x80\x80\x80\x01\x01a\x01x",
		"\xff\xff\xff\xff\xff\xff\xff\xff\xff\x01\x01a\x02", "\xff\xff\xff\xff\xff\xff\xff\xff\xff\x7f\x01a\x02",
		// Keys of no bytes, of 9, of other signs, of a length that is not as Num has it, or that is not there.
		"\x00\x00\x02", "\x01\x00\x01x", "\x00\x09abcdefghi\x02", "\x02\x09abcdefghi\x01x", "\x00\x01A\x02", "\x00\x01`\x02", "\x00\x01{\x02",
		"\x00\x01/\x02", "\x00\x01:\x02", "\x00\x02a\x80\x02", "\x00\x02\xc3\xa9\x02", "\x00\x81\x00a\x02", "\x01\x81\x80\x00a\x01x",
		"\x00\xff\xff\xff\xff\xff\xff\xff\xff\xff\x01a\x02", "\x00\x80\x80\x80\x80\x80\x80\x80\x80\x80\x01a\x02", "\x00\x08abcdefg",
		// Elements likewise.
		"\x01\x01a\x00", "\x02\x01a\x00", "\x03\x01a\x00", "\x01\x01a\x09abcdefghi", "\x02\x01a\x01X", "\x03\x01a\x01\x80", "\x01\x01a\x81\x00x",
		"\x02\x01a\x02x", "\x03\x01a\x02x:", "\x03\x01a\x02/x", "\x01\x01a\xff\xff\xff\xff\xff\xff\xff\xff\xff\x01x",
		// An N of 0, beyond 2^20 on either side, or not as Num has it.
		"\x00\x01a\x00", "\x00\x01a\x82\x80\x80\x01", "\x00\x01a\x81\x80\x80\x01", "\x00\x01a\x82\x00", "\x00\x01a\x80\x80\x80\x81\x00", "\x00\x01a\x80",
		"\x00\x01a\xff\xff\xff\xff\xff\xff\xff\xff\xff\x01", "\x00\x01a\xfe\xff\xff\xff\xff\xff\xff\xff\xff\x01", "\x00\x01a\x82\x80\x80\x80\x80\x80\x80\x80\x80\x02",
		"\x00\x01a\x80\x80\x80\x80\x80\x80\x80\x80\x80\x80\x01",
	} {
		none(t, b)
		check(t, []byte(b))
	}
	// As far as one that may not be would be put, it is not got.
	for _, o := range ops() {
		if o.Kind >= 0 && !wantMay(o) {
			check(t, wantPut(o))
		}
	}
}

// P5.3: all short bytes, and each byte of an operation's bytes as each other one, doubled, or left out.
func TestGetBytes(t *testing.T) {
	few := []byte{0, 1, 2, 3, 4, 8, 9, 'a', 'z', 'A', 127, 128, 129, 130, 255}
	var rest func(b []byte, more int)
	rest = func(b []byte, more int) {
		check(t, b)
		if more > 0 {
			for _, x := range few {
				rest(append(b[:len(b):len(b)], x), more-1)
			}
		}
	}
	rest(nil, 5)
	for _, o := range good() {
		if len(o.Key) > 2 && len(o.Key) < 8 {
			continue
		}
		b := wantPut(o)
		for i := range b {
			for x := range 256 {
				other := slices.Clone(b)
				other[i] = byte(x)
				check(t, other)
				check(t, append(other, 'a', 'b', 2))
			}
			check(t, slices.Delete(slices.Clone(b), i, i+1))
			check(t, slices.Insert(slices.Clone(b), i, b[i]))
		}
	}
}

// P5.4: what is got is put as the same bytes, so that no two bytes are one operation's.
func TestAgain(t *testing.T) {
	n := 0
	seed := uint32(1)
	for range 200000 {
		b := make([]byte, 0, 12)
		for range 3 + seed>>28 {
			seed = seed*1664525 + 1013904223
			b = append(b, []byte{byte(seed >> 24), byte(seed>>24) % 5, byte(seed>>24) % 3, 'a' + byte(seed>>24)%26}[seed>>16%4])
		}
		check(t, b)
		o, behind, err := Get(b)
		if err != api.OK {
			continue
		}
		n++
		again, err := Put(o)
		if err != api.OK || !bytes.Equal(append(again, behind...), b) {
			t.Errorf("%q is got as %v and %q, which is put as %q, %d", b, o, behind, again, err)
		}
	}
	if n < 100 {
		t.Errorf("only %d are operations", n)
	}
}

// R3: what is handed in stays, also behind its end, and what is answered is new.
func TestOwn(t *testing.T) {
	for _, o := range good() {
		first, _ := Put(o)
		second, _ := Put(o)
		keep := slices.Clone(second)
		full := first[:cap(first)]
		for i := range full {
			full[i] ^= 255
		}
		if !bytes.Equal(second, keep) {
			t.Fatalf("Put(%v): two answers share what they have", o)
		}
		if third, _ := Put(o); !bytes.Equal(third, keep) {
			t.Fatalf("Put(%v): another answer the next time", o)
		}

		room := append(slices.Clone(keep), "behind it"...)
		b, all := room[:len(keep)+4], slices.Clone(room)
		got, behind, _ := Get(b)
		_ = append(behind, "more"...)
		if !bytes.Equal(room, all) {
			t.Fatalf("Get(%q) changes what is handed in", all)
		}
		for i := range room {
			room[i] = '~'
		}
		if got != o || string(behind) != "behi" {
			t.Fatalf("Get(%q): the answer, %v and %q, changes with what was handed in", all, got, behind)
		}
		copy(room, all)
		full = behind[:cap(behind)]
		for i := range full {
			full[i] = '#'
		}
		if !bytes.Equal(room, all) {
			t.Fatalf("Get(%q): what was handed in changes with the answer", all)
		}
		if again, behind, err := Get(b); again != o || string(behind) != "behi" || err != api.OK {
			t.Fatalf("Get(%q): another answer the next time", all)
		}
	}
}

// P1, R1: long and odd arguments, too, are answered.
func TestAny(t *testing.T) {
	long := strings.Repeat("a", 1<<20)
	for _, kind := range kinds() {
		for _, n := range numbers() {
			for _, o := range []api.Op{{Kind: kind, Key: long, N: n}, {Kind: kind, Key: "a", Elem: long, N: n}, {Kind: kind, Key: long, Elem: long, N: n}} {
				if b, err := Put(o); May(o) || len(b) != 0 || err != api.ErrArg {
					t.Errorf("kind %d, N %d: a text of 2^20 bytes may be", kind, n)
				}
			}
		}
	}
	for _, x := range []byte{0, 1, 2, 3, 4, 8, 'a', 127, 128, 255} {
		check(t, bytes.Repeat([]byte{x}, 1<<20))
	}
	none(t, "\x01\x01a\x80\x80\x40"+long)
	none(t, "\x00\x80\x80\x40"+long)
	o, behind, err := Get([]byte("\x02\x01k\x08abcdefgh" + long))
	if o != (api.Op{Kind: api.Add, Key: "k", Elem: "abcdefgh"}) || string(behind) != long || err != api.OK {
		t.Error(o, len(behind), err)
	}
	if o, behind, err := Get(nil); o != (api.Op{}) || len(behind) != 0 || err != api.ErrForm {
		t.Error(o, behind, err)
	}
}
