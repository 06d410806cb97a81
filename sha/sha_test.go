package sha

import (
	"bytes"
	"crypto/sha256"
	"encoding"
	"encoding/binary"
	"encoding/hex"
	"math"
	"strings"
	"testing"

	"anabranch/api"
)

// some are n bytes that look like chance, but are always the same.
func some(n int, seed uint32) []byte {
	b := make([]byte, n)
	for i := range b {
		seed = seed*1664525 + 1013904223
		b[i] = byte(seed >> 24)
	}
	return b
}

// starts are words to begin a block from: Start, the edges, and others.
func starts() [][8]uint32 {
	l := [][8]uint32{{}, Start()}
	var ones, high, low [8]uint32
	for i := range ones {
		ones[i], high[i], low[i] = math.MaxUint32, 1<<31, 1
	}
	l = append(l, ones, high, low)
	for i := range 8 {
		var one [8]uint32
		one[i] = 0x80000001
		l = append(l, one)
	}
	seed := uint32(7)
	for range 20 {
		var h [8]uint32
		for i := range h {
			seed = seed*1664525 + 1013904223
			h[i] = seed
		}
		l = append(l, h)
	}
	return l
}

// blocks are blocks of 64 bytes: noughts, ones, each byte alone, and others.
func blocks() [][]byte {
	l := [][]byte{make([]byte, 64), bytes.Repeat([]byte{255}, 64), bytes.Repeat([]byte{128}, 64)}
	for i := range 64 {
		one := make([]byte, 64)
		one[i] = 1
		l = append(l, one)
	}
	for i := range 20 {
		l = append(l, some(64, uint32(i)))
	}
	return l
}

// edges are lengths around those at which one block more begins, the edges that the chapter names first.
func edges() []int {
	l := []int{0, 1, 2, 3}
	for _, n := range []int{55, 56, 63, 64, 119, 120, 127, 128, 183, 184, 191, 192, 1000, 4000, 1 << 13, 1 << 16} {
		l = append(l, n-1, n, n+1)
	}
	return l
}

// checkPad holds Pad of b against the chapter's words, one by one.
func checkPad(t *testing.T, b []byte) {
	t.Helper()
	p := Pad(b)
	n := len(b)
	if len(p) < n+9 || len(p)%64 != 0 {
		t.Fatalf("Pad of %d bytes: %d", n, len(p))
	}
	noughts := p[n+1 : len(p)-8]
	if !bytes.Equal(p[:n], b) {
		t.Errorf("Pad of %d bytes does not begin by them", n)
	}
	if p[n] != 128 {
		t.Errorf("Pad of %d bytes: %d behind them", n, p[n])
	}
	if len(noughts) >= 64 || !bytes.Equal(noughts, make([]byte, len(noughts))) {
		t.Errorf("Pad of %d bytes: noughts %v", n, noughts)
	}
	if x := binary.BigEndian.Uint64(p[len(p)-8:]); x != 8*uint64(n) {
		t.Errorf("Pad of %d bytes: the length is %d", n, x)
	}
}

// P2.1
func TestPad(t *testing.T) {
	for n := range 260 {
		checkPad(t, some(n, uint32(n)))
		checkPad(t, make([]byte, n))
		checkPad(t, bytes.Repeat([]byte{255}, n))
	}
	for _, n := range edges() {
		checkPad(t, some(n, 3))
	}
	// The length has to be told with more than three bytes.
	checkPad(t, some(1<<21+5, 3))
}

// P2.1: at each length the chapter's edges leave one length alone.
func TestPadLengths(t *testing.T) {
	for n, want := range map[int]int{
		0: 64, 1: 64, 54: 64, 55: 64, 56: 128, 57: 128, 62: 128, 63: 128, 64: 128, 65: 128,
		118: 128, 119: 128, 120: 192, 121: 192, 127: 192, 128: 192, 183: 192, 184: 256,
	} {
		if p := Pad(make([]byte, n)); len(p) != want {
			t.Errorf("Pad of %d bytes: %d, want %d", n, len(p), want)
		}
	}
}

// P2.1
func TestPadWritten(t *testing.T) {
	want := make([]byte, 64)
	want[0] = 128
	for _, b := range [][]byte{nil, {}} {
		if p := Pad(b); !bytes.Equal(p, want) {
			t.Error("Pad of nothing:", p)
		}
	}
	copy(want, "abc\x80")
	want[63] = 24
	if p := Pad([]byte("abc")); !bytes.Equal(p, want) {
		t.Error("Pad of abc:", p)
	}
	long := bytes.Repeat([]byte{7}, 56)
	want = append(append(bytes.Clone(long), 128), make([]byte, 71)...)
	want[126], want[127] = 1, 192
	if p := Pad(long); !bytes.Equal(p, want) {
		t.Error("Pad of 56 bytes:", p)
	}
}

// P2.2
func TestStart(t *testing.T) {
	want := [8]uint32{0x6a09e667, 0xbb67ae85, 0x3c6ef372, 0xa54ff53a, 0x510e527f, 0x9b05688c, 0x1f83d9ab, 0x5be0cd19}
	h := Start()
	if h != want {
		t.Errorf("Start: %x", h)
	}
	h[0] = 0
	if Start() != want {
		t.Error("Start changes with what it answered")
	}
}

// knownBlock is what the library's own SHA-256 comes to from the words h on, behind the block b: its state, as it is kept, is a text of 4 bytes, the words, a block and the length.
func knownBlock(t *testing.T, h [8]uint32, b []byte) [8]uint32 {
	t.Helper()
	sum := sha256.New()
	kept, err := sum.(encoding.BinaryMarshaler).MarshalBinary()
	if err != nil || len(kept) != 4+32+64+8 {
		t.Fatal("the library keeps its state in another form:", len(kept), err)
	}
	for i, x := range h {
		binary.BigEndian.PutUint32(kept[4+4*i:], x)
	}
	if err := sum.(encoding.BinaryUnmarshaler).UnmarshalBinary(kept); err != nil {
		t.Fatal(err)
	}
	sum.Write(b)
	kept, err = sum.(encoding.BinaryMarshaler).MarshalBinary()
	if err != nil {
		t.Fatal(err)
	}
	for i := range h {
		h[i] = binary.BigEndian.Uint32(kept[4+4*i:])
	}
	return h
}

// P2.3
func TestBlockFromAnyWords(t *testing.T) {
	for _, h := range starts() {
		for _, b := range blocks() {
			got, is := Block(h, b)
			if want := knownBlock(t, h, b); got != want || !is {
				t.Fatalf("Block(%x, %x) = %x %v, want %x", h, b, got, is, want)
			}
		}
	}
}

// P2.3: the block of "abc", with the words it is known to come to.
func TestBlockWritten(t *testing.T) {
	b := make([]byte, 64)
	copy(b, "abc\x80")
	b[63] = 24
	want := [8]uint32{0xba7816bf, 0x8f01cfea, 0x414140de, 0x5dae2223, 0xb00361a3, 0x96177a9c, 0xb410ff61, 0xf20015ad}
	if h, is := Block(Start(), b); h != want || !is {
		t.Errorf("%x %v", h, is)
	}
}

// P2.3
func TestBlockOfAnotherLength(t *testing.T) {
	room := some(256, 1)
	for n := range 200 {
		if n == 64 {
			continue
		}
		// There is more room behind: the length is what counts, not the capacity.
		for _, b := range [][]byte{room[:n], room[:n:n], make([]byte, n)} {
			for _, h := range starts() {
				if got, is := Block(h, b); got != h || is {
					t.Fatalf("Block(%x) of %d bytes: %x %v", h, n, got, is)
				}
			}
		}
	}
	for _, b := range [][]byte{nil, make([]byte, 1<<20), make([]byte, 1<<16+64)} {
		if got, is := Block(Start(), b); got != Start() || is {
			t.Errorf("Block of %d bytes: %x %v", len(b), got, is)
		}
	}
}

// P2.4
func TestSumIsOfTheBlocksOfPad(t *testing.T) {
	for _, n := range edges() {
		b := some(n, uint32(n)+9)
		p := Pad(b)
		h := Start()
		for len(p) > 0 {
			next, is := Block(h, p[:64])
			if !is {
				t.Fatalf("%d bytes: no block", n)
			}
			h, p = next, p[64:]
		}
		var want []byte
		for _, x := range h {
			want = binary.BigEndian.AppendUint32(want, x)
		}
		if id := Sum(b); id != api.ID(want) {
			t.Errorf("Sum of %d bytes: %x, want %x", n, id, want)
		}
	}
}

// P2.4
func TestSumExamples(t *testing.T) {
	for text, want := range map[string][4]byte{
		"abc": {186, 120, 22, 191},
		"":    {227, 176, 196, 66},
	} {
		if id := Sum([]byte(text)); [4]byte(id[:4]) != want {
			t.Errorf("Sum of %q: %v", text, id)
		}
	}
	if Sum(nil) != Sum([]byte{}) {
		t.Error("Sum of nil is not that of no bytes")
	}
}

// P2.5: sums that are written down where SHA-256 is.
func TestSumAsPublished(t *testing.T) {
	for text, want := range map[string]string{
		"":    "e3b0c44298fc1c149afbf4c8996fb92427ae41e4649b934ca495991b7852b855",
		"abc": "ba7816bf8f01cfea414140de5dae2223b00361a396177a9cb410ff61f20015ad",
		"abcdbcdecdefdefgefghfghighijhijkijkljklmklmnlmnomnopnopq":                                                         "248d6a61d20638b8e5c026930c3e6039a33ce45964ff2167f6ecedd419db06c1",
		"abcdefghbcdefghicdefghijdefghijkefghijklfghijklmghijklmnhijklmnoijklmnopjklmnopqklmnopqrlmnopqrsmnopqrstnopqrstu": "cf5b16a778af8380036ce59e7b0492370b249b11e8f07a51afac45037afee9d1",
		strings.Repeat("a", 1000000): "cdc76e5c9914fb9281a1c7e284d73e67f1809a48a497200e046d39ccc7112cd0",
	} {
		if id := Sum([]byte(text)); hex.EncodeToString(id[:]) != want {
			t.Errorf("Sum of %d bytes: %x, want %s", len(text), id, want)
		}
	}
}

// P2.5
func TestSumAsKnown(t *testing.T) {
	for n := range 300 {
		for _, b := range [][]byte{make([]byte, n), bytes.Repeat([]byte{255}, n), some(n, uint32(n)), some(n, ^uint32(n))} {
			if id := Sum(b); id != api.ID(sha256.Sum256(b)) {
				t.Fatalf("Sum of %x: %x", b, id)
			}
		}
	}
	for _, n := range edges() {
		b := some(n, 5)
		if id := Sum(b); id != api.ID(sha256.Sum256(b)) {
			t.Errorf("Sum of %d bytes: %x", n, id)
		}
	}
}

// P2.5: one bit more or less is another content.
func TestSumOfEachBit(t *testing.T) {
	b := some(130, 2)
	seen := map[api.ID]bool{Sum(b): true}
	for i := range 8 * len(b) {
		b[i/8] ^= 1 << (i % 8)
		id := Sum(b)
		if seen[id] || id != api.ID(sha256.Sum256(b)) {
			t.Errorf("bit %d: %x", i, id)
		}
		seen[id] = true
		b[i/8] ^= 1 << (i % 8)
	}
}

// R3: neither what is handed in changes, nor what stands behind it.
func TestHandedInStays(t *testing.T) {
	for _, n := range edges() {
		room := some(n+200, 4)
		was := bytes.Clone(room)
		Pad(room[:n])
		Sum(room[:n])
		Block(Start(), room[:n])
		if !bytes.Equal(room, was) {
			t.Errorf("%d bytes: what was handed in is changed", n)
		}
	}
	h := starts()[len(starts())-1]
	was := h
	Block(h, make([]byte, 64))
	if h != was {
		t.Error("the words handed in are changed")
	}
}

// R3
func TestAnswerIsTheCallersOwn(t *testing.T) {
	for _, n := range []int{0, 3, 55, 56, 64} {
		b := some(n, 6)[:n:n]
		was, p := bytes.Clone(b), Pad(b)
		kept := bytes.Clone(p)
		for i := range b {
			b[i]++
		}
		if !bytes.Equal(p, kept) {
			t.Errorf("%d bytes: Pad changes with what was handed in", n)
		}
		copy(b, was)
		for i := range p {
			p[i]++
		}
		if !bytes.Equal(b, was) || !bytes.Equal(Pad(b), kept) {
			t.Errorf("%d bytes: what was handed in changes with Pad", n)
		}
	}
}

// P1, R5: no call panics, and none answers otherwise the next time.
func TestNoCallPanics(t *testing.T) {
	room := some(1<<10, 8)
	for n := range len(room) {
		for _, b := range [][]byte{room[:n], room[n:], room[n:n], room[:n:n]} {
			h, is := Block(Start(), b)
			again, still := Block(Start(), b)
			if h != again || is != still || Sum(b) != Sum(b) || !bytes.Equal(Pad(b), Pad(b)) {
				t.Fatalf("%d bytes: another answer the next time", len(b))
			}
		}
	}
	Block([8]uint32{}, nil)
	Sum(nil)
	Pad(nil)
}
