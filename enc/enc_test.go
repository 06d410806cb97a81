package enc

import (
	"bytes"
	"encoding/binary"
	"math"
	"math/big"
	"slices"
	"strings"
	"testing"
)

// some are n bytes that look like chance, but are always the same.
func some(n int, seed uint32) []byte {
	b := make([]byte, n)
	for i := range b {
		seed = seed*1664525 + 1013904223
		b[i] = byte(seed >> 24)
	}
	return b
}

// numbers are all up to 2^15, those around each power of 2, and others of any size.
func numbers() []uint64 {
	l := []uint64{math.MaxUint64, math.MaxUint64 - 1, math.MaxInt64, 1 << 63}
	for n := range uint64(1 << 15) {
		l = append(l, n)
	}
	for k := range 64 {
		p := uint64(1) << k
		l = append(l, p-1, p, p+1, -p, -p-1, p|1<<63)
	}
	for i := range 2000 {
		l = append(l, binary.BigEndian.Uint64(some(8, uint32(i)))>>(i%64))
	}
	return l
}

// ints are ordinary numbers of both signs and those at the edges.
func ints() []int {
	l := []int{math.MinInt, math.MinInt + 1, math.MaxInt, math.MaxInt - 1, math.MinInt32, math.MaxInt32}
	for n := -3000; n <= 3000; n++ {
		l = append(l, n)
	}
	for _, n := range numbers()[1<<15:] {
		l = append(l, int(n))
	}
	return l
}

// tails are what may stand behind.
func tails() [][]byte {
	return [][]byte{nil, {0}, {1}, {127}, {128}, {255}, {0, 0}, {128, 128}, {255, 1}, some(20, 1), bytes.Repeat([]byte{255}, 30)}
}

// wrong are bytes that begin with no number.
func wrong() [][]byte {
	l := [][]byte{
		nil, {},
		{128, 0}, {255, 0}, {128, 128, 0}, {172, 2 | 128, 0},
		append(bytes.Repeat([]byte{255}, 9), 0),
		append(bytes.Repeat([]byte{128}, 9), 0),
		append(bytes.Repeat([]byte{255}, 9), 1|128, 0),
	}
	// They end ahead of a last digit.
	for n := 1; n <= 80; n++ {
		l = append(l, bytes.Repeat([]byte{128}, n), bytes.Repeat([]byte{129}, n), bytes.Repeat([]byte{255}, n))
	}
	// Digits beyond the greatest number.
	for last := 2; last < 256; last++ {
		for _, low := range []byte{128, 129, 255} {
			b := append(bytes.Repeat([]byte{low}, 9), byte(last))
			l = append(l, b, append(slices.Clone(b), 1), append(slices.Clone(b), 0), append(slices.Clone(b), 128, 1))
		}
	}
	for n := 10; n <= 80; n++ {
		for _, low := range []byte{128, 129, 255} {
			for _, last := range []byte{0, 1, 2, 64, 127} {
				l = append(l, append(bytes.Repeat([]byte{low}, n), last))
			}
		}
	}
	return l
}

// digitsOf are the digits of n to the base 128, the lowest one first, by division of n as written in whole numbers of any size.
func digitsOf(n uint64) []byte {
	left, base, digit := new(big.Int).SetUint64(n), big.NewInt(128), new(big.Int)
	var b []byte
	for len(b) == 0 || left.Sign() > 0 {
		left.QuoRem(left, base, digit)
		b = append(b, byte(digit.Int64()))
	}
	for i := range len(b) - 1 {
		b[i] += 128
	}
	return b
}

// wantGet is what the chapter's words ask of Get: it tries how many bytes the number might have, one by one.
func wantGet(b []byte) (uint64, int) {
	for size := 1; size <= min(len(b), 10); size++ {
		n := new(big.Int)
		for i := size - 1; i >= 0; i-- {
			n.Lsh(n, 7).Add(n, big.NewInt(int64(b[i]%128)))
		}
		if n.IsUint64() && bytes.Equal(digitsOf(n.Uint64()), b[:size]) {
			return n.Uint64(), size
		}
	}
	return 0, 0
}

// P3.1
func TestNumWritten(t *testing.T) {
	for n, want := range map[uint64][]byte{
		0:              {0},
		1:              {1},
		127:            {127},
		128:            {128, 1},
		129:            {129, 1},
		255:            {255, 1},
		256:            {128, 2},
		300:            {172, 2},
		16383:          {255, 127},
		16384:          {128, 128, 1},
		1 << 32:        {128, 128, 128, 128, 16},
		1<<63 - 1:      {255, 255, 255, 255, 255, 255, 255, 255, 127},
		1 << 63:        {128, 128, 128, 128, 128, 128, 128, 128, 128, 1},
		math.MaxUint64: {255, 255, 255, 255, 255, 255, 255, 255, 255, 1},
	} {
		if b := Num(n); !bytes.Equal(b, want) {
			t.Errorf("Num(%d) = %v, want %v", n, b, want)
		}
		if m, size := Get(want); m != n || size != len(want) {
			t.Errorf("Get(%v) = %d, %d, want %d, %d", want, m, size, n, len(want))
		}
	}
}

// P3.1
func TestNumIsTheDigits(t *testing.T) {
	for _, n := range numbers() {
		if b := Num(n); !bytes.Equal(b, digitsOf(n)) {
			t.Fatalf("Num(%d) = %v, want %v", n, b, digitsOf(n))
		}
		if b := Num(n); !bytes.Equal(b, binary.AppendUvarint(nil, n)) {
			t.Fatalf("Num(%d) = %v: the library has another one", n, b)
		}
	}
}

// P3.1: all that up to three bytes may be, the third one at the edges alone.
func TestGetOfFewBytes(t *testing.T) {
	check := func(b ...byte) {
		n, size := Get(b)
		if m, long := wantGet(b); n != m || size != long {
			t.Fatalf("Get(%v) = %d, %d, want %d, %d", b, n, size, m, long)
		}
	}
	check()
	for i := range 256 {
		check(byte(i))
		for j := range 256 {
			check(byte(i), byte(j))
			if i >= 128 && i%9 == 0 {
				for _, k := range []byte{0, 1, 127, 128, 129, 255} {
					check(byte(i), byte(j), k)
				}
			}
		}
	}
}

// P3.1: all last bytes behind as many digits as a number may have, and more.
func TestGetOfManyBytes(t *testing.T) {
	for n := range 14 {
		for _, low := range []byte{128, 129, 172, 255} {
			for last := range 256 {
				b := append(bytes.Repeat([]byte{low}, n), byte(last))
				for _, tail := range tails() {
					all := slices.Concat(b, tail)
					m, size := Get(all)
					if k, long := wantGet(all); m != k || size != long {
						t.Fatalf("Get(%v) = %d, %d, want %d, %d", all, m, size, k, long)
					}
				}
			}
		}
	}
	for i := range 20000 {
		b := some(i%16, uint32(i))
		// Most bytes go on, else most numbers would be short.
		for k := range b {
			if i%3 > 0 && k < i%13 {
				b[k] |= 128
			}
		}
		m, size := Get(b)
		if k, long := wantGet(b); m != k || size != long {
			t.Fatalf("Get(%v) = %d, %d, want %d, %d", b, m, size, k, long)
		}
	}
}

// P3.1
func TestGetWhereNoneStands(t *testing.T) {
	for _, b := range wrong() {
		if n, size := Get(b); n != 0 || size != 0 {
			t.Errorf("Get(%v) = %d, %d", b, n, size)
		}
	}
	// There is a last digit in the room behind: what stands there is what counts, not the capacity.
	for n := range 10 {
		room := append(bytes.Repeat([]byte{129}, n), 1, 1)
		if m, size := Get(room[:n]); m != 0 || size != 0 {
			t.Errorf("Get of %d bytes: %d, %d", n, m, size)
		}
	}
	if n, size := Get(bytes.Repeat([]byte{128}, 1<<24)); n != 0 || size != 0 {
		t.Error("Get of very many:", n, size)
	}
}

// P3.2
func TestFoldWritten(t *testing.T) {
	for n, want := range map[int]uint64{
		0:               0,
		-1:              1,
		1:               2,
		-2:              3,
		2:               4,
		63:              126,
		-64:             127,
		64:              128,
		1 << 20:         1 << 21,
		-1 << 20:        1<<21 - 1,
		math.MaxInt - 1: math.MaxUint64 - 3,
		math.MinInt + 1: math.MaxUint64 - 2,
		math.MaxInt:     math.MaxUint64 - 1,
		math.MinInt:     math.MaxUint64,
	} {
		if x := Fold(n); x != want {
			t.Errorf("Fold(%d) = %d, want %d", n, x, want)
		}
		if m := Unfold(want); m != n {
			t.Errorf("Unfold(%d) = %d, want %d", want, m, n)
		}
	}
}

// wantFold is the chapter's sum in whole numbers of any size.
func wantFold(n int) uint64 {
	x := big.NewInt(int64(n))
	if n >= 0 {
		return x.Mul(x, big.NewInt(2)).Uint64()
	}
	x.Sub(big.NewInt(-1), x)
	return x.Mul(x, big.NewInt(2)).Add(x, big.NewInt(1)).Uint64()
}

// P3.2
func TestFoldIsTheSum(t *testing.T) {
	for _, n := range ints() {
		if x := Fold(n); x != wantFold(n) {
			t.Fatalf("Fold(%d) = %d, want %d", n, x, wantFold(n))
		}
	}
}

// P3.2
func TestUnfoldIsWhoseFoldItIs(t *testing.T) {
	for _, n := range ints() {
		if m := Unfold(Fold(n)); m != n {
			t.Fatalf("Unfold of Fold of %d: %d", n, m)
		}
	}
	for _, n := range numbers() {
		if x := wantFold(Unfold(n)); x != n {
			t.Fatalf("Unfold(%d) = %d, whose Fold is %d", n, Unfold(n), x)
		}
	}
}

// texts are of many lengths, those at which one digit more is needed among them.
func texts() []string {
	l := []string{"", "a", "\x00", "\x80", "\xff\xfe", "\x00\x00", "é", "a\x00b"}
	for _, n := range []int{2, 3, 8, 126, 127, 128, 129, 255, 256, 4000, 16383, 16384, 16385, 1<<20 + 1} {
		l = append(l, string(some(n, uint32(n))), strings.Repeat("\x80", n), strings.Repeat("\x00", n))
	}
	return l
}

// P3.3
func TestTextWritten(t *testing.T) {
	for s, want := range map[string][]byte{
		"":         {0},
		"a":        {1, 97},
		"ab\x00":   {3, 97, 98, 0},
		"\xff\x80": {2, 255, 128},
		"é":        {2, 195, 169},
	} {
		if b := Text(s); !bytes.Equal(b, want) {
			t.Errorf("Text(%q) = %v, want %v", s, b, want)
		}
	}
	for _, s := range texts() {
		if b := Text(s); !bytes.Equal(b, append(digitsOf(uint64(len(s))), s...)) {
			t.Errorf("Text of %d bytes is not Num of that, and these", len(s))
		}
	}
}

// checkCut asks that b is cut into s and what stands behind.
func checkCut(t *testing.T, b []byte, most int, s string, behind []byte) {
	t.Helper()
	got, left, is := Cut(b, most)
	if got != s || !bytes.Equal(left, behind) || !is {
		t.Errorf("Cut(%d bytes, %d) = %d bytes, %v, %v, want %d bytes, %v", len(b), most, len(got), left, is, len(s), behind)
	}
}

// checkNoCut asks that b is not cut.
func checkNoCut(t *testing.T, b []byte, most int) {
	t.Helper()
	if s, behind, is := Cut(b, most); s != "" || len(behind) != 0 || is {
		t.Errorf("Cut(%d bytes, %d) = %d bytes, %d bytes, %v", len(b), most, len(s), len(behind), is)
	}
}

// P3.3
func TestCutByMost(t *testing.T) {
	for _, s := range texts() {
		for _, tail := range tails() {
			b := append(append(digitsOf(uint64(len(s))), s...), tail...)
			for _, most := range []int{len(s), len(s) + 1, 2*len(s) + 7, math.MaxInt32, math.MaxInt - 1, math.MaxInt} {
				checkCut(t, b, most, s, tail)
			}
			// Of a text without bytes -len(s) is not too few.
			for _, most := range []int{len(s) - 1, len(s)/2 - 1, -1, -2, -len(s), -len(s) - 1, math.MinInt32, math.MinInt + 1, math.MinInt} {
				if most < len(s) {
					checkNoCut(t, b, most)
				}
			}
		}
	}
}

// P3.3
func TestCutWritten(t *testing.T) {
	checkCut(t, []byte{0}, 0, "", nil)
	checkCut(t, []byte{0, 7}, 0, "", []byte{7})
	checkCut(t, []byte{1, 97, 98}, 1, "a", []byte{98})
	checkCut(t, []byte{2, 97, 98, 1, 97}, 8, "ab", []byte{1, 97})
	checkNoCut(t, []byte{1, 97, 98}, 0)
	checkNoCut(t, []byte{0}, -1)
	checkNoCut(t, []byte{1}, 8)
	checkNoCut(t, []byte{2, 97}, 8)
}

// P3.3
func TestCutOfATextThatIsNotWhole(t *testing.T) {
	for _, s := range texts() {
		b := append(digitsOf(uint64(len(s))), s...)
		for _, end := range []int{0, 1, 2, len(b) / 2, len(b) - 2, len(b) - 1} {
			if end >= 0 && end < len(b) {
				// The rest stands in the room behind: what stands there is what counts, not the capacity.
				for _, most := range []int{0, 1, len(s), math.MaxInt} {
					checkNoCut(t, b[:end], most)
					checkNoCut(t, b[:end:end], most)
				}
			}
		}
	}
}

// P3.3
func TestCutOfWrongLengths(t *testing.T) {
	mosts := []int{math.MinInt, -1, 0, 1, 8, 200, math.MaxInt - 1, math.MaxInt}
	for _, b := range wrong() {
		for _, most := range mosts {
			checkNoCut(t, b, most)
		}
	}
	// A length 0 with a digit too many is none, though a text stands behind.
	checkNoCut(t, []byte{128, 0, 97, 98}, 8)
	checkNoCut(t, []byte{129, 0, 97, 98}, 8)
	for _, n := range []uint64{1 << 31, 1 << 32, 1<<32 + 1, math.MaxInt64 - 1, math.MaxInt64, 1 << 63, 1<<63 + 1, 1<<63 + 2, math.MaxUint64 - 9, math.MaxUint64 - 1, math.MaxUint64} {
		for _, most := range mosts {
			for _, tail := range tails() {
				checkNoCut(t, append(digitsOf(n), tail...), most)
			}
		}
	}
}

// wantCut is what the chapter's words ask of Cut: it tries how many bytes the text might have, one by one.
func wantCut(b []byte, most int) (string, []byte, bool) {
	for n := 0; n <= most && n <= len(b); n++ {
		for size := 1; size+n <= len(b); size++ {
			s := b[size : size+n]
			if bytes.Equal(append(digitsOf(uint64(n)), s...), b[:size+n]) {
				return string(s), b[size+n:], true
			}
		}
	}
	return "", nil, false
}

// P3.3
func TestCutOfFewBytes(t *testing.T) {
	heads := []byte{0, 1, 2, 3, 4, 127, 128, 129, 130, 131, 255}
	for _, i := range heads {
		for _, j := range heads {
			for n := range 6 {
				b := []byte{i, j, 97, 0, 98, 255}[:n]
				for most := -2; most < 8; most++ {
					s, behind, is := Cut(b, most)
					if z, left, may := wantCut(b, most); s != z || !bytes.Equal(behind, left) || is != may {
						t.Fatalf("Cut(%v, %d) = %q, %v, %v, want %q, %v, %v", b, most, s, behind, is, z, left, may)
					}
				}
			}
		}
	}
}

// P3.4
func TestWhatIsPutIsGot(t *testing.T) {
	for _, n := range numbers() {
		for _, tail := range tails() {
			b := Num(n)
			if m, size := Get(slices.Concat(b, tail)); m != n || size != len(b) {
				t.Fatalf("Get of Num(%d) and %v: %d, %d", n, tail, m, size)
			}
		}
	}
	for _, s := range texts() {
		for _, tail := range tails() {
			checkCut(t, slices.Concat(Text(s), tail), len(s), s, tail)
		}
	}
	for _, n := range ints() {
		m, _ := Get(Num(Fold(n)))
		if Unfold(m) != n {
			t.Fatalf("%d comes back as %d", n, Unfold(m))
		}
	}
}

// P3.4
func TestWhatIsGotIsPutAsTheSameBytes(t *testing.T) {
	for i := range 50000 {
		b := some(i%40, uint32(i))
		if len(b) > 0 && i%2 == 0 {
			b[0] %= 16
		}
		if n, size := Get(b); size > 0 && !bytes.Equal(Num(n), b[:size]) {
			t.Fatalf("Get(%v) = %d, %d, which is put as %v", b, n, size, Num(n))
		}
		if s, behind, is := Cut(b, i%50); is && !bytes.Equal(slices.Concat(Text(s), behind), b) {
			t.Fatalf("Cut(%v) = %q, %v, which is put as %v", b, s, behind, Text(s))
		}
	}
}

// P3.4: several, one behind the other, come back in order.
func TestOneBehindTheOther(t *testing.T) {
	var b []byte
	for _, s := range texts() {
		b = append(append(b, Text(s)...), Num(uint64(len(s))*7)...)
	}
	for _, s := range texts() {
		got, behind, is := Cut(b, math.MaxInt)
		n, size := Get(behind)
		if got != s || !is || n != uint64(len(s))*7 {
			t.Fatalf("a text of %d bytes: %v, %d", len(s), is, n)
		}
		b = behind[size:]
	}
	if len(b) != 0 {
		t.Error("too much is there:", len(b))
	}
}

// R3: neither what is handed in changes, nor what stands behind it.
func TestHandedInStays(t *testing.T) {
	for _, s := range []string{"", "a", "abcdefgh", string(some(300, 2))} {
		room := slices.Concat(Text(s), some(100, 3))
		was := bytes.Clone(room)
		for end := range len(room) {
			Get(room[:end])
			if _, behind, is := Cut(room[:end], 1000); is {
				_ = append(behind, 1, 2, 3, 4)
			}
		}
		if !bytes.Equal(room, was) {
			t.Errorf("%d bytes: what was handed in is changed", len(s))
		}
	}
}

// R3
func TestAnswerIsTheCallersOwn(t *testing.T) {
	for _, long := range []int{0, 1, 8, 200} {
		for _, left := range []int{0, 1, 8, 200} {
			s, tail := string(some(long, 4)), some(left, 5)
			b := slices.Concat(Text(s), tail)
			was := bytes.Clone(b)
			got, behind, _ := Cut(b, long)
			for i := range b {
				b[i]++
			}
			if got != s || !bytes.Equal(behind, tail) {
				t.Errorf("%d and %d bytes: Cut changes with what was handed in", long, left)
			}
			copy(b, was)
			for i := range behind {
				behind[i]++
			}
			if !bytes.Equal(b, was) {
				t.Errorf("%d and %d bytes: what was handed in changes with Cut", long, left)
			}
		}
	}
}

// R3: a later answer is the same, whatever was done to an earlier one.
func TestAnswerIsNew(t *testing.T) {
	spoil := func(b []byte) {
		b = b[:cap(b)]
		for i := range b {
			b[i] = ^b[i]
		}
	}
	for _, n := range []uint64{0, 1, 127, 128, 300, math.MaxUint64} {
		spoil(Num(n))
		if !bytes.Equal(Num(n), digitsOf(n)) {
			t.Errorf("Num(%d) changes with what it answered", n)
		}
	}
	for _, s := range []string{"", "a", "abcdefgh", string(some(300, 6))} {
		want := append(digitsOf(uint64(len(s))), s...)
		kept := strings.Clone(s)
		spoil(Text(s))
		if !bytes.Equal(Text(s), want) || s != kept {
			t.Errorf("Text of %d bytes changes with what it answered", len(s))
		}
		b := append(bytes.Clone(want), 1, 2, 3)
		_, behind, _ := Cut(b, len(s))
		spoil(behind)
		checkCut(t, b, len(s), s, []byte{1, 2, 3})
	}
}

// P1, R5: no call panics, and none answers otherwise the next time.
func TestNoCallPanics(t *testing.T) {
	for _, n := range numbers() {
		if Fold(Unfold(n)) != n || !bytes.Equal(Num(n), Num(n)) {
			t.Fatal("another answer the next time:", n)
		}
	}
	mosts := []int{math.MinInt, -1, 0, 1, 5, 1 << 31, math.MaxInt}
	for i := range 5000 {
		b := some(i%70, uint32(i)*7)
		n, size := Get(b)
		if m, again := Get(b); m != n || again != size {
			t.Fatalf("Get(%v): another answer the next time", b)
		}
		for _, most := range mosts {
			s, behind, is := Cut(b, most)
			if z, left, may := Cut(b, most); s != z || !bytes.Equal(behind, left) || is != may {
				t.Fatalf("Cut(%v, %d): another answer the next time", b, most)
			}
		}
	}
	for _, n := range ints() {
		Fold(n)
		Cut(nil, n)
		Cut([]byte{}, n)
		Cut([]byte{0}, n)
		Cut([]byte{200}, n)
		Cut(Num(uint64(n)), n)
	}
}
