package rot

import (
	"bytes"
	"math"
	"testing"
)

// words are ordinary words and those at the edges.
func words() []uint32 {
	l := []uint32{0, 1, 2, 3, 5, 0x80, 0xff, 0x100, 0x8000, 0xffff, 0x10000, 0x12345678, 0x55555555, 0xaaaaaaaa, 0x7fffffff, 0x80000000, 0x80000001, 0xfffffffe, 0xffffffff}
	x := uint32(1)
	for range 40 {
		x = x*1664525 + 1013904223
		l = append(l, x)
	}
	return l
}

// turns are how far a word may go round: all from -70 to 70, and the edges of int.
func turns() []int {
	l := []int{math.MinInt, math.MinInt + 1, math.MinInt + 31, math.MaxInt - 31, math.MaxInt - 1, math.MaxInt, math.MinInt32, math.MaxInt32, math.MaxUint32, -math.MaxUint32, 1 << 40, -1 << 40, 1<<40 + 7, -1<<40 - 7}
	for n := -70; n <= 70; n++ {
		l = append(l, n)
	}
	return l
}

func bit(x uint32, k int) bool { return x>>k&1 == 1 }

// modulo32 is a remainder from 0 to 31.
func modulo32(n int) int {
	r := n % 32
	if r < 0 {
		r += 32
	}
	return r
}

// P1.1
func TestRightBitByBit(t *testing.T) {
	for _, x := range words() {
		for _, n := range turns() {
			y := Right(x, n)
			for k := range 32 {
				if bit(y, k) != bit(x, modulo32(k+modulo32(n))) {
					t.Fatalf("Right(%#x, %d) = %#x: bit %d", x, n, y, k)
				}
			}
		}
	}
}

// P1.1
func TestRightExamples(t *testing.T) {
	for _, c := range []struct {
		x    uint32
		n    int
		want uint32
	}{
		{1, 1, 2147483648},
		{1, 0, 1},
		{1, 31, 2},
		{1, 32, 1},
		{1, 33, 2147483648},
		{1, -1, 2},
		{1, -31, 2147483648},
		{1, -32, 1},
		{1, -33, 2},
		{0x12345678, 4, 0x81234567},
		{0x12345678, -4, 0x23456781},
		{0x12345678, math.MinInt, 0x12345678},
		{0x12345678, math.MaxInt, 0x2468acf0},
	} {
		if y := Right(c.x, c.n); y != c.want {
			t.Errorf("Right(%#x, %d) = %#x, want %#x", c.x, c.n, y, c.want)
		}
	}
}

// P1.2
func TestWord(t *testing.T) {
	b := []byte{1, 2, 3, 4, 255, 0, 128}
	for at, want := range []uint32{16909060, 0x020304ff, 0x0304ff00, 0x04ff0080} {
		if x, is := Word(b, at); x != want || !is {
			t.Errorf("Word at %d: %#x %v, want %#x", at, x, is, want)
		}
	}
	if !bytes.Equal(b, []byte{1, 2, 3, 4, 255, 0, 128}) {
		t.Error("what was handed in is changed:", b)
	}
}

// P1.2
func TestWordWeighsEachByte(t *testing.T) {
	for place, weight := range []uint32{1 << 24, 1 << 16, 1 << 8, 1} {
		for v := range 256 {
			b := make([]byte, 4)
			b[place] = byte(v)
			if x, is := Word(b, 0); x != uint32(v)*weight || !is {
				t.Fatalf("byte %d at %d: %#x %v", v, place, x, is)
			}
		}
	}
}

// P1.2
func TestWordWhereNoneStands(t *testing.T) {
	room := []byte{1, 2, 3, 4, 5, 6, 7, 8}
	for long := range 7 {
		// There is more room behind: what stands there is what counts, not the capacity.
		b := room[:long]
		places := []int{math.MinInt, math.MinInt + 3, -5, -4, -3, -2, -1, math.MaxInt - 4, math.MaxInt - 3, math.MaxInt}
		for at := max(0, long-3); at < 12; at++ {
			places = append(places, at)
		}
		for _, at := range places {
			if x, is := Word(b, at); x != 0 || is {
				t.Errorf("Word of %d bytes at %d: %#x %v", long, at, x, is)
			}
		}
	}
	if x, is := Word(nil, 0); x != 0 || is {
		t.Error("Word of nil:", x, is)
	}
}

// P1.2
func TestFour(t *testing.T) {
	for x, want := range map[uint32][4]byte{
		0:          {},
		1:          {0, 0, 0, 1},
		16909060:   {1, 2, 3, 4},
		0x80000000: {128, 0, 0, 0},
		0xfffefdfc: {255, 254, 253, 252},
	} {
		if b := Four(x); b != want {
			t.Errorf("Four(%#x) = %v, want %v", x, b, want)
		}
	}
	for _, x := range words() {
		b := Four(x)
		if y, is := Word(b[:], 0); y != x || !is {
			t.Errorf("Word of Four(%#x) = %#x %v", x, y, is)
		}
	}
}

// P1.2
func TestLong(t *testing.T) {
	for x, want := range map[uint64][8]byte{
		0:                  {},
		1:                  {0, 0, 0, 0, 0, 0, 0, 1},
		0x0102030405060708: {1, 2, 3, 4, 5, 6, 7, 8},
		1 << 32:            {0, 0, 0, 1, 0, 0, 0, 0},
		1 << 63:            {128, 0, 0, 0, 0, 0, 0, 0},
		math.MaxUint64 - 1: {255, 255, 255, 255, 255, 255, 255, 254},
	} {
		if b := Long(x); b != want {
			t.Errorf("Long(%#x) = %v, want %v", x, b, want)
		}
	}
	for _, high := range words() {
		for _, low := range words() {
			sum := uint64(0)
			for _, v := range Long(uint64(high)<<32 | uint64(low)) {
				sum = sum*256 + uint64(v)
			}
			if sum != uint64(high)<<32|uint64(low) {
				t.Fatalf("Long of %#x %#x comes to %#x", high, low, sum)
			}
		}
	}
}

// P1.3: these three words have each of the eight ways in which three bits may be.
func TestPickAndMostOfAllBits(t *testing.T) {
	if x := Pick(0b11110000, 0b11001100, 0b10101010); x != 0b11001010 {
		t.Errorf("Pick: %b", x)
	}
	if x := Most(0b11110000, 0b11001100, 0b10101010); x != 0b11101000 {
		t.Errorf("Most: %b", x)
	}
}

// P1.3
func TestPickAndMostBitByBit(t *testing.T) {
	for _, a := range words() {
		for _, b := range words() {
			for _, c := range words() {
				if !picks(a, b, c, Pick(a, b, c)) {
					t.Fatalf("Pick(%#x, %#x, %#x) = %#x", a, b, c, Pick(a, b, c))
				}
				if !isMost(a, b, c, Most(a, b, c)) {
					t.Fatalf("Most(%#x, %#x, %#x) = %#x", a, b, c, Most(a, b, c))
				}
			}
		}
	}
}

func picks(by, a, b, x uint32) bool {
	for k := range 32 {
		want := bit(b, k)
		if bit(by, k) {
			want = bit(a, k)
		}
		if bit(x, k) != want {
			return false
		}
	}
	return true
}

func isMost(a, b, c, x uint32) bool {
	for k := range 32 {
		have := 0
		for _, y := range []uint32{a, b, c} {
			if bit(y, k) {
				have++
			}
		}
		if bit(x, k) != (have >= 2) {
			return false
		}
	}
	return true
}

// P1.4
func TestRoundBy32IsAsItWas(t *testing.T) {
	for _, x := range words() {
		for _, n := range []int{32, -32, 0, 64, 1 << 40, math.MinInt, math.MaxInt - 31} {
			if y := Right(x, n); y != x {
				t.Errorf("Right(%#x, %d) = %#x", x, n, y)
			}
		}
	}
}

// P1.4
func TestRoundByTwoAsByBothTogether(t *testing.T) {
	for _, x := range words() {
		for _, n := range turns() {
			for _, m := range turns() {
				// n+m may wrap around (R7); that changes nothing modulo 32.
				if y := Right(Right(x, n), m); y != Right(x, n+m) {
					t.Fatalf("Right(%#x) by %d and by %d: %#x, together %#x", x, n, m, y, Right(x, n+m))
				}
			}
		}
	}
}

// P1.4
func TestFourOfAWordAreItsBytes(t *testing.T) {
	b := []byte{0, 255, 1, 128, 127, 2, 254, 0, 0, 0, 0, 9, 255, 255, 255, 255}
	for at := 0; at+4 <= len(b); at++ {
		x, is := Word(b, at)
		if four := Four(x); !is || !bytes.Equal(four[:], b[at:at+4]) {
			t.Errorf("at %d: %v %v", at, four, is)
		}
	}
}

// P1: the edges of every argument, held against each other.
func TestNoCallPanics(t *testing.T) {
	for _, x := range words() {
		for _, n := range turns() {
			Right(x, n)
			Word(nil, n)
			Word([]byte{}, n)
			Word(make([]byte, 3), n)
			Word(make([]byte, 64, 128), n)
		}
		Four(x)
		Long(uint64(x))
		Long(^uint64(x))
		Pick(x, ^x, 0)
		Most(x, ^x, 0)
	}
}
