package ids

import (
	"bytes"
	"encoding/hex"
	"math/big"
	"slices"
	"strings"
	"testing"

	"anabranch/api"
)

// some is an id that looks like chance, but is always the same.
func some(seed uint32) api.ID {
	var a api.ID
	for i := range a {
		seed = seed*1664525 + 1013904223
		a[i] = byte(seed >> 24)
	}
	return a
}

// at is an id of noughts but for one byte.
func at(i int, x byte) api.ID {
	var a api.ID
	a[i] = x
	return a
}

// full is an id of one byte all over.
func full(x byte) api.ID {
	return api.ID(bytes.Repeat([]byte{x}, len(api.ID{})))
}

// edges are ids that differ from others at the first byte alone, at the last one, in the midst, at several, or nowhere.
func edges() []api.ID {
	l := []api.ID{{}, full(1), full(127), full(128), full(255), some(1), some(2)}
	for _, x := range []byte{1, 2, 15, 16, 127, 128, 129, 254, 255} {
		l = append(l, at(0, x), at(1, x), at(16, x), at(31, x))
	}
	a := some(3)
	for _, i := range []int{0, 1, 15, 30, 31} {
		b := a
		b[i] ^= 128
		l = append(l, a, b)
	}
	// The first byte that differs tells, not one behind it.
	l = append(l, api.ID{0: 1, 31: 255}, api.ID{0: 2, 31: 1}, api.ID{5: 9, 6: 1}, api.ID{5: 8, 6: 255})
	return l
}

// lists are such as the calls may be given: in any order, ids several times, and none at all.
func lists() [][]api.ID {
	l := [][]api.ID{nil, {}, edges()}
	for _, a := range edges()[:12] {
		l = append(l, []api.ID{a}, []api.ID{a, a}, []api.ID{a, a, a, a})
	}
	up := wantSort(edges())
	down := slices.Clone(up)
	slices.Reverse(down)
	l = append(l, up, down, up[:2], down[len(down)-2:], append(slices.Clone(up), up...), append(slices.Clone(down), up...))
	// Lists of a few ids of which many are the same, so that two lists have some in common.
	for n := range 40 {
		var few []api.ID
		for k := range n % 14 {
			few = append(few, some(uint32((n*7+k*k*3)%9)))
		}
		l = append(l, few)
	}
	return l
}

// value is an id as a whole number, its first byte the highest one: the lesser number is the id that comes ahead.
func value(a api.ID) *big.Int {
	return new(big.Int).SetBytes(a[:])
}

func wantHas(l []api.ID, a api.ID) bool {
	for i := range l {
		if bytes.Equal(l[i][:], a[:]) {
			return true
		}
	}
	return false
}

// wantSort puts each id in at its place, one by one.
func wantSort(l []api.ID) []api.ID {
	var r []api.ID
	for _, a := range l {
		if wantHas(r, a) {
			continue
		}
		k := 0
		for k < len(r) && value(r[k]).Cmp(value(a)) < 0 {
			k++
		}
		r = slices.Insert(r, k, a)
	}
	return r
}

func wantKept(a, b []api.ID, has bool) []api.ID {
	var r []api.ID
	for _, x := range a {
		if wantHas(b, x) == has {
			r = append(r, x)
		}
	}
	return wantSort(r)
}

// turned are the same ids in other orders, and some of them several times.
func turned(l []api.ID) [][]api.ID {
	back := slices.Clone(l)
	slices.Reverse(back)
	round := append(slices.Clone(l[len(l)/3:]), l[:len(l)/3]...)
	return [][]api.ID{back, round, append(slices.Clone(l), back...), append(slices.Clone(round), l[:len(l)/2]...)}
}

// P4.1: the first byte that differs tells.
func TestLess(t *testing.T) {
	l := edges()
	for n := range uint32(40) {
		l = append(l, some(n+100))
	}
	for _, a := range l {
		for _, b := range l {
			if got, want := Less(a, b), value(a).Cmp(value(b)) < 0; got != want {
				t.Errorf("Less(%x, %x) = %v, want %v", a, b, got, want)
			}
		}
	}
	for i := range 32 {
		for x := range 255 {
			if !Less(at(i, byte(x)), at(i, byte(x+1))) || Less(at(i, byte(x+1)), at(i, byte(x))) {
				t.Errorf("byte %d: %d and %d", i, x, x+1)
			}
		}
		if a := at(i, 200); Less(a, a) {
			t.Errorf("byte %d: less than itself", i)
		}
	}
	for i := range 31 {
		// What stands behind the first one that differs tells nothing.
		a, b := at(i, 1), at(i, 2)
		a[i+1], b[i+1] = 255, 0
		if !Less(a, b) || Less(b, a) {
			t.Errorf("byte %d: the one behind it tells", i)
		}
	}
}

// P4.1: two digits a byte.
func TestHex(t *testing.T) {
	for _, a := range edges() {
		if got, want := Hex(a), hex.EncodeToString(a[:]); got != want {
			t.Errorf("Hex(%v) = %s, want %s", a, got, want)
		}
	}
	for i := range 32 {
		for x := range 256 {
			two := []byte{"0123456789abcdef"[x/16], "0123456789abcdef"[x%16]}
			want := strings.Repeat("00", i) + string(two) + strings.Repeat("00", 31-i)
			if got := Hex(at(i, byte(x))); got != want {
				t.Errorf("byte %d, %d: %s, want %s", i, x, got, want)
			}
		}
	}
	if got := Hex(full(255)); got != strings.Repeat("f", 64) {
		t.Error(got)
	}
	if got := Hex(full(10)); got != strings.Repeat("0a", 32) {
		t.Error(got)
	}
}

// The chapter's example.
func TestExample(t *testing.T) {
	noughts := strings.Repeat("0", 64)
	if got := Hex(api.ID{}); got != noughts {
		t.Error(got)
	}
	if a, ok := Read(noughts); a != (api.ID{}) || !ok {
		t.Error(a, ok)
	}
}

// P4.1: what Hex writes is read again.
func TestRead(t *testing.T) {
	l := edges()
	for i := range 32 {
		for x := range 256 {
			l = append(l, at(i, byte(x)))
		}
	}
	for _, a := range l {
		if got, ok := Read(hex.EncodeToString(a[:])); got != a || !ok {
			t.Errorf("Read of %x = %x, %v", a, got, ok)
		}
		if got, ok := Read(Hex(a)); got != a || !ok {
			t.Errorf("Read(Hex(%x)) = %x, %v", a, got, ok)
		}
	}
}

// none asks that a text is no id's Hex.
func none(t *testing.T, s string) {
	t.Helper()
	if a, ok := Read(s); a != (api.ID{}) || ok {
		t.Errorf("Read(%q) = %x, %v, want noughts and false", s, a, ok)
	}
}

// P4.1: any other text is none's.
func TestReadNone(t *testing.T) {
	for _, a := range []api.ID{{}, full(255), some(1), some(2)} {
		s := hex.EncodeToString(a[:])
		for n := range 64 {
			none(t, s[:n])
			none(t, s[64-n:])
			none(t, s+s[:n+1])
		}
		none(t, s+s+s)
		for _, more := range []string{"0", "f", " ", "\n", "\x00", "00"} {
			none(t, s+more)
			none(t, more+s)
		}
		for i := range 64 {
			for x := range 256 {
				if !strings.Contains("0123456789abcdef", string(rune(x))) {
					none(t, s[:i]+string([]byte{byte(x)})+s[i+1:])
				}
			}
		}
	}
	none(t, "0x"+strings.Repeat("0", 62))
	none(t, strings.Repeat("A", 64))
	none(t, strings.Repeat("é", 32))
	none(t, strings.Repeat("\xff", 64))
	none(t, strings.Repeat("0", 1<<16))
}

// P4.2: rising, each once.
func TestSort(t *testing.T) {
	for _, l := range lists() {
		got, want := Sort(l), wantSort(l)
		if !slices.Equal(got, want) {
			t.Errorf("Sort(%x) = %x, want %x", l, got, want)
		}
		if !Rises(got) {
			t.Errorf("Sort(%x) = %x does not rise", l, got)
		}
		if again := Sort(got); !slices.Equal(again, got) {
			t.Errorf("Sort of what rises, %x, is %x", got, again)
		}
	}
	var many, want []api.ID
	for n := range 3000 {
		k := n * 7 % 3000
		many = append(many, api.ID{30: byte(k >> 8), 31: byte(k)})
		want = append(want, api.ID{30: byte(n >> 8), 31: byte(n)})
	}
	if got := Sort(append(many, many...)); !slices.Equal(got, wantSort(want)) {
		t.Error("many ids are not in their order")
	}
}

// P4.2: each less than the next one.
func TestRises(t *testing.T) {
	for _, l := range lists() {
		want := slices.Equal(l, wantSort(l))
		if got := Rises(l); got != want {
			t.Errorf("Rises(%x) = %v, want %v", l, got, want)
		}
	}
	low, mid, high := at(31, 1), at(31, 200), at(0, 1)
	for _, x := range []struct {
		l    []api.ID
		want bool
	}{
		{nil, true}, {[]api.ID{}, true},
		{[]api.ID{low}, true}, {[]api.ID{{}}, true},
		{[]api.ID{low, high}, true}, {[]api.ID{low, low}, false}, {[]api.ID{high, low}, false},
		{[]api.ID{low, mid, high}, true}, {[]api.ID{low, mid, mid}, false}, {[]api.ID{low, low, mid}, false},
		{[]api.ID{low, high, mid}, false}, {[]api.ID{mid, low, high}, false}, {[]api.ID{high, mid, low}, false},
	} {
		if got := Rises(x.l); got != x.want {
			t.Errorf("Rises(%x) = %v, want %v", x.l, got, x.want)
		}
	}
	up := wantSort(edges())
	for i := range len(up) - 1 {
		l := slices.Clone(up)
		l[i], l[i+1] = l[i+1], l[i]
		same := slices.Clone(up)
		same[i+1] = same[i]
		if !Rises(up) || Rises(l) || Rises(same) {
			t.Errorf("place %d: %v %v %v", i, Rises(up), Rises(l), Rises(same))
		}
	}
}

// P4.2: among them, wherever they stand.
func TestHas(t *testing.T) {
	for _, l := range lists() {
		for _, a := range append(edges(), some(4), some(8), some(1000)) {
			if got, want := Has(l, a), wantHas(l, a); got != want {
				t.Errorf("Has(%x, %x) = %v, want %v", l, a, got, want)
			}
		}
	}
	if Has(nil, api.ID{}) || Has([]api.ID{}, api.ID{}) {
		t.Error("no ids have noughts")
	}
	if !Has([]api.ID{full(9), {}}, api.ID{}) || !Has([]api.ID{{}, full(9)}, full(9)) {
		t.Error("of two that fall, or rise, one is not there")
	}
	for i := range 32 {
		if Has([]api.ID{full(7)}, func() api.ID { a := full(7); a[i]++; return a }()) {
			t.Errorf("an id that differs at byte %d alone is there", i)
		}
	}
}

// P4.3: those of two lists.
func TestTwo(t *testing.T) {
	for _, a := range lists() {
		for _, b := range lists() {
			if got, want := Both(a, b), wantSort(append(slices.Clone(a), b...)); !slices.Equal(got, want) {
				t.Errorf("Both(%x, %x) = %x, want %x", a, b, got, want)
			}
			if got, want := Common(a, b), wantKept(a, b, true); !slices.Equal(got, want) {
				t.Errorf("Common(%x, %x) = %x, want %x", a, b, got, want)
			}
			if got, want := Without(a, b), wantKept(a, b, false); !slices.Equal(got, want) {
				t.Errorf("Without(%x, %x) = %x, want %x", a, b, got, want)
			}
		}
	}
}

// P4.3: the edges by name.
func TestTwoEdges(t *testing.T) {
	x, y, z := at(31, 1), at(31, 2), at(0, 3)
	for _, c := range []struct{ a, b, both, common, without []api.ID }{
		{nil, nil, nil, nil, nil},
		{[]api.ID{}, []api.ID{}, nil, nil, nil},
		{[]api.ID{x}, nil, []api.ID{x}, nil, []api.ID{x}},
		{nil, []api.ID{x}, []api.ID{x}, nil, nil},
		{[]api.ID{x, y}, []api.ID{x, y}, []api.ID{x, y}, []api.ID{x, y}, nil},
		{[]api.ID{y, x, y}, []api.ID{x, x, y}, []api.ID{x, y}, []api.ID{x, y}, nil},
		{[]api.ID{z, y, z}, []api.ID{y, x, y}, []api.ID{x, y, z}, []api.ID{y}, []api.ID{z}},
		{[]api.ID{z, z, z}, []api.ID{x}, []api.ID{x, z}, nil, []api.ID{z}},
		{[]api.ID{{}}, nil, []api.ID{{}}, nil, []api.ID{{}}},
		{[]api.ID{{}, x}, []api.ID{{}}, []api.ID{{}, x}, []api.ID{{}}, []api.ID{x}},
	} {
		if got := Both(c.a, c.b); !slices.Equal(got, c.both) {
			t.Errorf("Both(%x, %x) = %x", c.a, c.b, got)
		}
		if got := Common(c.a, c.b); !slices.Equal(got, c.common) {
			t.Errorf("Common(%x, %x) = %x", c.a, c.b, got)
		}
		if got := Without(c.a, c.b); !slices.Equal(got, c.without) {
			t.Errorf("Without(%x, %x) = %x", c.a, c.b, got)
		}
	}
}

// P4.4: in whatever order, and however often, ids stand.
func TestSets(t *testing.T) {
	all := lists()
	for i, a := range all {
		b := all[(i*5+3)%len(all)]
		both, common, without := Both(a, b), Common(a, b), Without(a, b)
		for _, a2 := range turned(a) {
			for _, b2 := range turned(b) {
				if !slices.Equal(Both(a2, b2), both) || !slices.Equal(Common(a2, b2), common) || !slices.Equal(Without(a2, b2), without) {
					t.Errorf("other orders of %x and %x: other answers", a, b)
				}
			}
		}
		if !slices.Equal(Both(b, a), both) || !slices.Equal(Common(b, a), common) {
			t.Errorf("%x and %x the other way round: other answers", a, b)
		}
		if !slices.Equal(Both(common, without), Sort(a)) || len(Common(common, without)) != 0 {
			t.Errorf("Common and Without of %x and %x are not all of the first one, each in one alone", a, b)
		}
		if !slices.Equal(Both(without, b), both) || !slices.Equal(Without(both, b), without) {
			t.Errorf("Without of %x and %x is not what the first one has more", a, b)
		}
	}
}

// R3: what is handed in stays, also behind its end, and what is answered is new.
func TestOwn(t *testing.T) {
	calls := []struct {
		name string
		f    func(a, b []api.ID) []api.ID
	}{
		{"Sort", func(a, b []api.ID) []api.ID { return Sort(a) }},
		{"Both", Both}, {"Common", Common}, {"Without", Without},
		{"Both of one", func(a, b []api.ID) []api.ID { return Both(a, nil) }},
		{"Both of the other", func(a, b []api.ID) []api.ID { return Both(nil, a) }},
		{"Common of one", func(a, b []api.ID) []api.ID { return Common(a, a) }},
		{"Without nothing", func(a, b []api.ID) []api.ID { return Without(a, nil) }},
	}
	for _, c := range calls {
		for _, l := range lists() {
			room := append(slices.Clone(l), full(77), full(78))
			a := room[:len(l)]
			b := slices.Clone(lists()[3])
			keep, keepB := slices.Clone(room), slices.Clone(b)
			got := c.f(a, b)
			if !slices.Equal(room, keep) || !slices.Equal(b, keepB) {
				t.Fatalf("%s changes what is handed in", c.name)
			}
			want := slices.Clone(got)
			for i := range room {
				room[i] = full(99)
			}
			clear(b)
			if !slices.Equal(got, want) {
				t.Fatalf("%s: the answer changes with what was handed in", c.name)
			}
			copy(room, keep)
			for i := range got {
				got[i] = full(98)
			}
			_ = append(got, full(97))
			if !slices.Equal(room, keep) {
				t.Fatalf("%s: what was handed in changes with the answer", c.name)
			}
			copy(b, keepB)
			if again := c.f(a, b); !slices.Equal(again, want) {
				t.Fatalf("%s: another answer the next time", c.name)
			}
		}
	}
	for _, l := range lists() {
		keep := slices.Clone(l)
		Rises(l)
		Has(l, full(3))
		if !slices.Equal(l, keep) {
			t.Fatal("Rises or Has changes what is handed in")
		}
	}
}

// P1, R1, R5: every call ends, none panics, and each answers the same again.
func TestAny(t *testing.T) {
	texts := []string{"", "0", strings.Repeat("0", 63), strings.Repeat("0", 65), strings.Repeat("g", 64), strings.Repeat("\x80", 64), strings.Repeat("ab", 1<<15)}
	for n := range 300 {
		b := some(uint32(n))
		texts = append(texts, string(b[:n%33])+string(b[:]))
	}
	for _, s := range texts {
		a, ok := Read(s)
		if again, is := Read(s); again != a || is != ok {
			t.Errorf("Read(%q): another answer the next time", s)
		}
		if ok && Hex(a) != s || !ok && a != (api.ID{}) {
			t.Errorf("Read(%q) = %x, %v", s, a, ok)
		}
	}
	for n := range 60 {
		var a, b []api.ID
		for k := range n {
			a = append(a, some(uint32(k*n)))
			b = append(b, some(uint32(k*k)))
		}
		if !slices.Equal(Sort(a), Sort(a)) || !slices.Equal(Both(a, b), Both(a, b)) || !slices.Equal(Common(a, b), Common(a, b)) || !slices.Equal(Without(a, b), Without(a, b)) {
			t.Errorf("%d ids: another answer the next time", n)
		}
	}
}
