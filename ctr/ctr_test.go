package ctr

import (
	"math"
	"math/big"
	"regexp"
	"slices"
	"strings"
	"testing"

	"anabranch/api"
)

var one = regexp.MustCompile(`\A[a-z0-9]{1,8}\z`)

// row are counts of keys and numbers in turn.
func row(x ...any) []api.Ctr {
	var l []api.Ctr
	for i := 0; i < len(x); i += 2 {
		l = append(l, api.Ctr{Key: x[i].(string), N: x[i+1].(int)})
	}
	return l
}

// wrong are texts that may be no keys.
func wrong() []string {
	return []string{"", "A", "aB", "abcdefghi", strings.Repeat("z", 300), "`", "{", "/", ":", " ", "a ", "a\x00", "\x00", "\x80", "a\xff", "é", "日本", "a\n"}
}

// numbers are small ones and those at the ends, whose sums wrap around.
func numbers() []int {
	return []int{0, 1, -1, 2, -2, 3, 1 << 20, -1 << 20, 1 << 30, 1 << 31, 1 << 32, -1 << 32, 1 << 62, -1 << 62, math.MaxInt, math.MaxInt - 1, math.MinInt, math.MinInt + 1}
}

// good are counts that may be: none, one, and several that have keys in common, or none, with small and with great numbers.
func good() [][]api.Ctr {
	l := [][]api.Ctr{
		nil, {},
		row("a", 1), row("a", 3), row("a", -1), row("b", 5), row("c", -2), row("z", 1), row("0", 7), row("abcdefgh", 1),
		row("a", 1, "b", 1), row("a", 3, "b", 5), row("b", 5, "c", -5), row("a", -1, "c", 1), row("a", 1, "aa", 2, "ab", 3, "b", 4),
		row("0", 1, "9", 2, "a", 3, "z", 4), row("9z", 1, "a0", 1), row("a", 1, "ab", 1, "abc", 1, "abcd", 1),
		row("a", 3, "b", -3, "c", 3, "d", -3, "e", 3), row("b", 1, "d", 1), row("a", 2, "c", 2, "e", 2),
	}
	for _, n := range numbers()[1:] {
		l = append(l, row("a", n), row("a", 1, "b", n), row("a", n, "b", -7, "c", n))
	}
	// Counts of a few keys of which many are the same, so that lists have some in common.
	seed := uint32(5)
	next := func() int {
		seed = seed*1664525 + 1013904223
		return int(seed >> 16)
	}
	for range 30 {
		var m []api.Ctr
		for _, key := range []string{"0", "a", "aa", "b", "k7", "zz"} {
			if next()%2 == 0 {
				m = append(m, api.Ctr{Key: key, N: next()%4*2 - 3})
			}
		}
		l = append(l, m)
	}
	return l
}

// bad are counts that may not be.
func bad() [][]api.Ctr {
	l := [][]api.Ctr{
		row("", 0), row("a", 0), row("", 1),
		// Keys that fall, and that are the same.
		row("b", 1, "a", 1), row("a", 1, "a", 1), row("a", 1, "a", -1), row("a", 1, "b", 1, "a", 1), row("a", 1, "c", 1, "b", 1), row("b", 1, "a", 1, "c", 1),
		row("a", 1, "a", 1, "b", 1), row("a", 1, "b", 1, "b", 1), row("c", 1, "b", 1, "a", 1), row("a", 1, "b", 1, "b", 2, "c", 1),
		// Of which one begins with the other, and which stand otherwise than byte by byte.
		row("ab", 1, "a", 1), row("abc", 1, "ab", 1), row("b", 1, "ab", 1), row("aa", 1, "b", 1, "a", 1), row("a", 1, "9", 1), row("a0", 1, "9z", 1), row("aa", 1, "a0", 1), row("b", 1, "aaaaaaaa", 1),
	}
	for _, s := range wrong() {
		l = append(l, row(s, 1), row("a", 1, s, 1), row(s, 1, "zz", 1), row("a", 1, s, 1, "z", 1))
	}
	for at := range 3 {
		m := row("a", 1, "b", 2, "c", 3)
		m[at].N = 0
		l = append(l, m)
	}
	for at := range 2 {
		m := row("a", 1, "b", 2)
		m[at].N = 0
		l = append(l, m)
	}
	return l
}

// wantMay asks each key, and holds each against all that stand behind it.
func wantMay(l []api.Ctr) bool {
	for i, c := range l {
		if !one.MatchString(c.Key) || c.N == 0 {
			return false
		}
		for _, d := range l[i+1:] {
			if strings.Compare(c.Key, d.Key) != -1 {
				return false
			}
		}
	}
	return true
}

func wantGet(l []api.Ctr, key string) int {
	i := slices.IndexFunc(l, func(c api.Ctr) bool { return c.Key == key })
	if i < 0 {
		return 0
	}
	return l[i].N
}

// wrap is a whole number as an int of 64 bits has it.
func wrap(x *big.Int) int {
	top := new(big.Int).Lsh(big.NewInt(1), 64)
	m := new(big.Int).Mod(x, top)
	if m.Bit(63) == 1 {
		m.Sub(m, top)
	}
	return int(m.Int64())
}

// wantMerge asks for each key what the three have, in numbers without bounds.
func wantMerge(base, a, b []api.Ctr) []api.Ctr {
	if !wantMay(base) || !wantMay(a) || !wantMay(b) {
		return nil
	}
	var keys []string
	for _, l := range [][]api.Ctr{base, a, b} {
		for _, c := range l {
			keys = append(keys, c.Key)
		}
	}
	slices.Sort(keys)
	var l []api.Ctr
	for _, key := range slices.Compact(keys) {
		x := big.NewInt(int64(wantGet(a, key)))
		x.Add(x, big.NewInt(int64(wantGet(b, key))))
		x.Sub(x, big.NewInt(int64(wantGet(base, key))))
		if n := wrap(x); n != 0 {
			l = append(l, api.Ctr{Key: key, N: n})
		}
	}
	return l
}

// wantInc takes the key out, and puts it in at its place, unless it comes to 0.
func wantInc(l []api.Ctr, key string, n int) []api.Ctr {
	if !wantMay(l) || !one.MatchString(key) {
		return nil
	}
	sum := wrap(new(big.Int).Add(big.NewInt(int64(wantGet(l, key))), big.NewInt(int64(n))))
	r := slices.DeleteFunc(slices.Clone(l), func(c api.Ctr) bool { return c.Key == key })
	if sum == 0 {
		return r
	}
	at := 0
	for at < len(r) && r[at].Key < key {
		at++
	}
	return slices.Insert(r, at, api.Ctr{Key: key, N: sum})
}

func checkInc(t *testing.T, l []api.Ctr, key string, n int) {
	t.Helper()
	if got, want := Inc(l, key, n), wantInc(l, key, n); !slices.Equal(got, want) {
		t.Errorf("Inc(%v, %q, %d) = %v, want %v", l, key, n, got, want)
	}
}

func checkMerge(t *testing.T, base, a, b []api.Ctr) {
	t.Helper()
	if got, want := Merge(base, a, b), wantMerge(base, a, b); !slices.Equal(got, want) {
		t.Errorf("Merge(%v, %v, %v) = %v, want %v", base, a, b, got, want)
	}
}

// P6.1: keys that are ones and rise, none twice, and no N of 0.
func TestMay(t *testing.T) {
	for _, l := range good() {
		if !May(l) || !wantMay(l) {
			t.Errorf("%v may not be", l)
		}
	}
	for _, l := range bad() {
		if May(l) || wantMay(l) {
			t.Errorf("%v may be", l)
		}
	}
}

// P6.1: the edges by name.
func TestMayEdges(t *testing.T) {
	for _, x := range []struct {
		l    []api.Ctr
		want bool
	}{
		{nil, true}, {[]api.Ctr{}, true}, {[]api.Ctr{{}}, false},
		{row("a", 1), true}, {row("a", -1), true}, {row("a", 0), false}, {row("a", math.MinInt), true}, {row("a", math.MaxInt), true},
		{row("abcdefgh", 1), true}, {row("abcdefghi", 1), false}, {row("", 1), false}, {row("A", 1), false},
		{row("a", 1, "b", 1), true}, {row("b", 1, "a", 1), false}, {row("a", 1, "a", 1), false}, {row("a", 1, "a", 2), false},
		{row("a", 1, "ab", 1), true}, {row("ab", 1, "a", 1), false}, {row("ab", 1, "b", 1), true}, {row("b", 1, "ab", 1), false},
		{row("9", 1, "a", 1), true}, {row("a", 1, "9", 1), false},
		{row("a", 1, "b", 1, "c", 1), true}, {row("", 1, "b", 1, "c", 1), false}, {row("a", 1, "b`", 1, "c", 1), false}, {row("a", 1, "b", 1, "é", 1), false},
		{row("a", 0, "b", 1, "c", 1), false}, {row("a", 1, "b", 0, "c", 1), false}, {row("a", 1, "b", 1, "c", 0), false},
		{row("a", 1, "c", 1, "b", 1), false}, {row("b", 1, "a", 1, "c", 1), false}, {row("a", 1, "b", 1, "b", 1), false}, {row("a", 1, "a", 1, "b", 1), false},
	} {
		if got := May(x.l); got != x.want {
			t.Errorf("May(%v) = %v, want %v", x.l, got, x.want)
		}
	}
	// Each text that may be no key, at each place among others; it is the text that tells, as the keys rise.
	for _, s := range wrong() {
		for _, l := range [][]api.Ctr{row(s, 1), row(s, 1, s+"0", 1), row(s[:len(s)/2], 1, s, 1)} {
			if May(l) {
				t.Errorf("%v may be", l)
			}
		}
	}
	var many []api.Ctr
	for x := range 26 * 26 {
		many = append(many, api.Ctr{Key: string([]byte{'a' + byte(x/26), 'a' + byte(x%26)}), N: x - 700})
	}
	if !May(many) {
		t.Error("many counts may not be")
	}
	for i := range len(many) - 1 {
		same, fall, none := slices.Clone(many), slices.Clone(many), slices.Clone(many)
		same[i+1].Key = same[i].Key
		fall[i], fall[i+1] = fall[i+1], fall[i]
		none[i].N = 0
		if May(same) || May(fall) || May(none) {
			t.Errorf("place %d: %v %v %v", i, May(same), May(fall), May(none))
		}
	}
}

// P6.1: the first one of that key, also where counts may not be.
func TestGet(t *testing.T) {
	for _, x := range []struct {
		l    []api.Ctr
		key  string
		want int
	}{
		{nil, "a", 0}, {nil, "", 0}, {[]api.Ctr{}, "a", 0},
		{row("a", 1), "a", 1}, {row("a", 1), "b", 0}, {row("a", 1), "", 0}, {row("a", 1), "aa", 0}, {row("ab", 1), "a", 0}, {row("a", 1), "A", 0},
		{row("a", 1, "b", 2, "c", 3), "a", 1}, {row("a", 1, "b", 2, "c", 3), "b", 2}, {row("a", 1, "b", 2, "c", 3), "c", 3}, {row("a", 1, "c", 3), "b", 0},
		{row("a", math.MinInt, "b", math.MaxInt), "a", math.MinInt}, {row("a", math.MinInt, "b", math.MaxInt), "b", math.MaxInt},
		// Counts that may not be.
		{row("a", 1, "a", 2), "a", 1}, {row("b", 3, "a", 1, "b", 2), "b", 3}, {row("a", 0, "a", 2), "a", 0}, {row("c", 1, "b", 2, "a", 3), "a", 3}, {row("c", 1, "a", 2, "b", 3), "b", 3},
		{row("", 5), "", 5}, {row("A", 5), "A", 5}, {row("A", 5), "a", 0}, {row("a\x00", 5), "a", 0}, {row("\xff", 5, "\xff", 6), "\xff", 5}, {row("\xff", 5), "\xfe", 0}, {row("é", 5), "é", 5},
		{row("abcdefghi", 4), "abcdefghi", 4}, {row("abcdefghi", 4), "abcdefgh", 0}, {[]api.Ctr{{}}, "", 0},
	} {
		if got := Get(x.l, x.key); got != x.want {
			t.Errorf("Get(%v, %q) = %d, want %d", x.l, x.key, got, x.want)
		}
	}
	for _, l := range append(good(), bad()...) {
		keys := append(wrong(), "a", "aa", "ab", "b", "c", "z", "0", "zz", "nothere")
		for _, c := range l {
			keys = append(keys, c.Key)
		}
		for _, key := range keys {
			if got, want := Get(l, key), wantGet(l, key); got != want {
				t.Errorf("Get(%v, %q) = %d, want %d", l, key, got, want)
			}
		}
	}
}

// P6.2: that key has n more, all others what they have.
func TestInc(t *testing.T) {
	keys := append(wrong(), "0", "9", "a", "a0", "aa", "ab", "aba", "b", "bb", "c", "d", "k7", "z", "zz", "abcdefgh", "zzzzzzzz")
	for _, l := range append(good(), bad()...) {
		for _, key := range keys {
			for _, n := range numbers() {
				checkInc(t, l, key, n)
			}
			got := Inc(l, key, -Get(l, key))
			if May(l) && (!May(got) || Get(got, key) != 0) {
				t.Errorf("%v: %q comes to 0, but is there: %v", l, key, got)
			}
		}
	}
}

// P6.2: the edges by name.
func TestIncEdges(t *testing.T) {
	for _, x := range []struct {
		l    []api.Ctr
		key  string
		n    int
		want []api.Ctr
	}{
		{nil, "a", 1, row("a", 1)}, {nil, "a", -1, row("a", -1)}, {nil, "a", 0, nil}, {[]api.Ctr{}, "abcdefgh", 3, row("abcdefgh", 3)},
		// Ahead of, between and behind those that are there.
		{row("b", 1, "d", 2), "a", 5, row("a", 5, "b", 1, "d", 2)}, {row("b", 1, "d", 2), "c", 5, row("b", 1, "c", 5, "d", 2)}, {row("b", 1, "d", 2), "e", 5, row("b", 1, "d", 2, "e", 5)},
		{row("ab", 1), "a", 5, row("a", 5, "ab", 1)}, {row("a", 1), "ab", 5, row("a", 1, "ab", 5)}, {row("a", 1), "9", 5, row("9", 5, "a", 1)}, {row("b", 1), "aaaaaaaa", 5, row("aaaaaaaa", 5, "b", 1)},
		// One that is there.
		{row("b", 1, "d", 2), "b", 5, row("b", 6, "d", 2)}, {row("b", 1, "d", 2), "d", 5, row("b", 1, "d", 7)}, {row("b", 1, "d", 2), "d", -5, row("b", 1, "d", -3)},
		// By 0, and to 0.
		{row("b", 1, "d", 2), "d", 0, row("b", 1, "d", 2)}, {row("b", 1, "d", 2), "c", 0, row("b", 1, "d", 2)}, {row("b", 1, "d", 2), "b", -1, row("d", 2)}, {row("b", 1, "d", 2), "d", -2, row("b", 1)},
		{row("a", 1), "a", -1, nil}, {row("a", -1), "a", 1, nil},
		// The least and the greatest one, and around.
		{nil, "a", math.MaxInt, row("a", math.MaxInt)}, {nil, "a", math.MinInt, row("a", math.MinInt)},
		{row("a", math.MaxInt), "a", 1, row("a", math.MinInt)}, {row("a", math.MinInt), "a", -1, row("a", math.MaxInt)}, {row("a", math.MinInt), "a", math.MinInt, nil},
		{row("a", math.MaxInt), "a", math.MaxInt, row("a", -2)}, {row("a", math.MaxInt), "a", math.MinInt, row("a", -1)}, {row("a", 1), "a", math.MinInt, row("a", math.MinInt+1)},
		{row("a", math.MaxInt), "a", -math.MaxInt, nil}, {row("a", 1<<62, "b", 1), "a", 1 << 62, row("a", math.MinInt, "b", 1)},
		// Counts that may not be, and a key that may not be.
		{row("b", 1, "a", 1), "a", 1, nil}, {row("a", 1, "a", 1), "b", 1, nil}, {row("a", 0), "a", 1, nil}, {row("a", 0), "b", 1, nil}, {row("A", 1), "a", 1, nil}, {row("a", 1, "b", 0), "a", 0, nil},
		{row("a", 1), "", 1, nil}, {row("a", 1), "A", 1, nil}, {row("a", 1), "abcdefghi", 1, nil}, {row("a", 1), "é", 0, nil}, {nil, "a\x00", 1, nil}, {row("a", 1), "", 0, nil},
		{row("A", 1), "A", 1, nil}, {row("A", 1), "A", -1, nil},
	} {
		if got := Inc(x.l, x.key, x.n); !slices.Equal(got, x.want) {
			t.Errorf("Inc(%v, %q, %d) = %v, want %v", x.l, x.key, x.n, got, x.want)
		}
		checkInc(t, x.l, x.key, x.n)
	}
}

// The chapter's example.
func TestExample(t *testing.T) {
	base, a, b := row("a", 1), row("a", 3), row("b", 5)
	want := row("a", 2, "b", 5)
	if got := Merge(base, a, b); !slices.Equal(got, want) {
		t.Error(got)
	}
	if got := Merge(base, b, a); !slices.Equal(got, want) {
		t.Error(got)
	}
}

// P6.3: what a has, and what b has, less what base has.
func TestMerge(t *testing.T) {
	for _, base := range good() {
		for _, a := range good() {
			for _, b := range good() {
				checkMerge(t, base, a, b)
			}
		}
	}
}

// P6.3: nothing, if one of the three may not be, whichever it is.
func TestMergeBad(t *testing.T) {
	ok := row("a", 3, "b", 5)
	for _, x := range bad() {
		for _, three := range [][3][]api.Ctr{
			{x, ok, ok}, {ok, x, ok}, {ok, ok, x}, {x, x, ok}, {x, ok, x}, {ok, x, x}, {x, x, x},
			{x, nil, nil}, {nil, x, nil}, {nil, nil, x}, {x, row("c", 1), nil}, {nil, x, row("c", 1)}, {row("c", 1), nil, x},
		} {
			if got := Merge(three[0], three[1], three[2]); len(got) != 0 {
				t.Errorf("Merge(%v, %v, %v) = %v, want nothing", three[0], three[1], three[2], got)
			}
		}
	}
}

// P6.3: the edges by name.
func TestMergeEdges(t *testing.T) {
	for _, x := range []struct{ base, a, b, want []api.Ctr }{
		{nil, nil, nil, nil}, {[]api.Ctr{}, []api.Ctr{}, []api.Ctr{}, nil},
		// Keys that one of the three has.
		{nil, row("a", 2), nil, row("a", 2)}, {nil, nil, row("a", 2), row("a", 2)}, {row("a", 2), nil, nil, row("a", -2)},
		// Keys that two have.
		{nil, row("a", 2), row("a", 3), row("a", 5)}, {row("a", 2), row("a", 5), nil, row("a", 3)}, {row("a", 2), nil, row("a", 5), row("a", 3)},
		// And all.
		{row("a", 1), row("a", 3), row("a", 5), row("a", 7)}, {row("a", 1), row("a", 1), row("a", 1), row("a", 1)}, {row("a", 4), row("a", 3), row("a", 2), row("a", 1)},
		// What comes to 0.
		{nil, row("a", 2), row("a", -2), nil}, {row("a", 2), row("a", 2), nil, nil}, {row("a", 2), nil, row("a", 2), nil}, {row("a", 4), row("a", 1), row("a", 3), nil},
		{row("a", 4, "b", 1), row("a", 1, "b", 1), row("a", 3, "b", 1, "c", 1), row("b", 1, "c", 1)},
		// Around.
		{nil, row("a", math.MaxInt), row("a", 1), row("a", math.MinInt)}, {nil, row("a", math.MinInt), row("a", -1), row("a", math.MaxInt)}, {nil, row("a", math.MinInt), row("a", math.MinInt), nil},
		{row("a", math.MinInt), nil, nil, row("a", math.MinInt)}, {row("a", math.MaxInt), nil, nil, row("a", -math.MaxInt)}, {row("a", 1), row("a", math.MinInt), nil, row("a", math.MaxInt)},
		{row("a", math.MinInt), row("a", math.MaxInt), row("a", 1), nil}, {row("a", math.MaxInt), row("a", math.MaxInt), row("a", math.MaxInt), row("a", math.MaxInt)},
		{row("a", -1), row("a", math.MaxInt), nil, row("a", math.MinInt)}, {row("a", math.MinInt), row("a", math.MinInt), row("a", math.MinInt), row("a", math.MinInt)},
		// The same counts on both sides.
		{nil, row("a", 1, "b", 2), row("a", 1, "b", 2), row("a", 2, "b", 4)}, {row("b", 2), row("a", 1, "b", 2), row("a", 1, "b", 2), row("a", 2, "b", 2)},
		// In order, whichever has the keys.
		{row("b", 1), row("d", 1), row("a", 1, "c", 1), row("a", 1, "b", -1, "c", 1, "d", 1)}, {row("0", 1), row("ab", 1), row("a", 1), row("0", -1, "a", 1, "ab", 1)},
	} {
		if got := Merge(x.base, x.a, x.b); !slices.Equal(got, x.want) {
			t.Errorf("Merge(%v, %v, %v) = %v, want %v", x.base, x.a, x.b, got, x.want)
		}
		checkMerge(t, x.base, x.a, x.b)
	}
}

// P6.4: whichever is a, and with base as one of both it is the other one.
func TestEither(t *testing.T) {
	for _, a := range good() {
		for _, b := range good() {
			if got := Merge(a, a, b); !slices.Equal(got, b) {
				t.Errorf("Merge(%v, %v, %v) = %v, want %v", a, a, b, got, b)
			}
			if got := Merge(b, a, b); !slices.Equal(got, a) {
				t.Errorf("Merge(%v, %v, %v) = %v, want %v", b, a, b, got, a)
			}
			for _, base := range good()[:30] {
				ab, ba := Merge(base, a, b), Merge(base, b, a)
				if !slices.Equal(ab, ba) {
					t.Errorf("from %v: %v and %v are merged as %v, the other way round as %v", base, a, b, ab, ba)
				}
				if !May(ab) {
					t.Errorf("from %v: %v and %v are merged as %v, which may not be", base, a, b, ab)
				}
			}
		}
	}
}

// P2: three that come from one are merged to the same, in whatever order; and what is counted on two sides is counted as on one.
func TestOrder(t *testing.T) {
	all := good()
	for i, base := range all {
		for j, a := range all {
			b, c := all[(i*3+j*5+1)%len(all)], all[(i*7+j*2+4)%len(all)]
			want := Merge(base, Merge(base, a, b), c)
			for _, got := range [][]api.Ctr{
				Merge(base, a, Merge(base, b, c)), Merge(base, Merge(base, c, a), b), Merge(base, c, Merge(base, b, a)), Merge(base, Merge(base, b, c), a),
				Merge(a, Merge(base, a, b), Merge(base, a, c)), Merge(b, Merge(base, c, b), Merge(base, b, a)),
			} {
				if !slices.Equal(got, want) {
					t.Errorf("from %v: %v, %v and %v are merged as %v, and as %v", base, a, b, c, want, got)
				}
			}
		}
		for _, n := range numbers() {
			one, two := Inc(base, "a", n), Inc(Inc(base, "b", 3), "a", -7)
			if got, want := Merge(base, one, two), Inc(two, "a", n); !slices.Equal(got, want) {
				t.Errorf("from %v, %d more on one side: %v, want %v", base, n, got, want)
			}
		}
	}
}

// R3: what is handed in stays, also behind its end, and what is answered is new.
func TestOwn(t *testing.T) {
	calls := []struct {
		name string
		f    func(base, a, b []api.Ctr) []api.Ctr
	}{
		{"Merge", Merge},
		{"Merge with nothing", func(base, a, b []api.Ctr) []api.Ctr { return Merge(nil, a, nil) }},
		{"Merge with base", func(base, a, b []api.Ctr) []api.Ctr { return Merge(base, base, a) }},
		{"Merge with itself", func(base, a, b []api.Ctr) []api.Ctr { return Merge(a, a, a) }},
		{"Inc", func(base, a, b []api.Ctr) []api.Ctr { return Inc(a, "aa", 2) }},
		{"Inc of the first one", func(base, a, b []api.Ctr) []api.Ctr { return Inc(a, "a", 2) }},
		{"Inc by 0", func(base, a, b []api.Ctr) []api.Ctr { return Inc(a, "a", 0) }},
		{"Inc to 0", func(base, a, b []api.Ctr) []api.Ctr { return Inc(a, "b", -Get(a, "b")) }},
		{"Inc behind all", func(base, a, b []api.Ctr) []api.Ctr { return Inc(a, "zzzzzzzz", 1) }},
		{"Inc of none", func(base, a, b []api.Ctr) []api.Ctr { return Inc(a, "", 1) }},
		{"May and Get", func(base, a, b []api.Ctr) []api.Ctr { May(a); Get(a, "a"); return nil }},
	}
	all := append(good(), bad()...)
	for _, c := range calls {
		for i, l := range all {
			var rooms, keeps [3][]api.Ctr
			for k, m := range [][]api.Ctr{all[(i*3+1)%len(all)], l, all[(i*5+2)%len(all)]} {
				rooms[k] = append(slices.Clone(m), row("y", 77, "", 0)...)
				keeps[k] = slices.Clone(rooms[k])
			}
			call := func() []api.Ctr {
				return c.f(rooms[0][:len(rooms[0])-2], rooms[1][:len(rooms[1])-2], rooms[2][:len(rooms[2])-2])
			}
			same := func(what string) {
				for k := range rooms {
					if !slices.Equal(rooms[k], keeps[k]) {
						t.Fatalf("%s: %s", c.name, what)
					}
				}
			}
			got := call()
			same("what is handed in is changed")
			want := slices.Clone(got)
			for k := range rooms {
				for j := range rooms[k] {
					rooms[k][j] = api.Ctr{Key: "q", N: 99}
				}
			}
			if !slices.Equal(got, want) {
				t.Fatalf("%s: the answer changes with what was handed in", c.name)
			}
			for k := range rooms {
				copy(rooms[k], keeps[k])
			}
			full := got[:cap(got)]
			for j := range full {
				full[j] = api.Ctr{Key: "r", N: 98}
			}
			same("what was handed in changes with the answer")
			if again := call(); !slices.Equal(again, want) {
				t.Fatalf("%s: another answer the next time", c.name)
			}
		}
	}
}

// P1, R1, R5: every call ends, none panics, whatever it is given, and each answers the same again.
func TestAny(t *testing.T) {
	long := strings.Repeat("a", 1<<16)
	seed := uint32(9)
	next := func(n int) int {
		seed = seed*1664525 + 1013904223
		return int(seed>>8) % n
	}
	texts := append(wrong(), long, "a", "a", "b", "c", "aa", "0")
	some := func() []api.Ctr {
		l := make([]api.Ctr, next(5))
		for i := range l {
			l[i] = api.Ctr{Key: texts[next(len(texts))], N: numbers()[next(len(numbers()))]}
		}
		return l
	}
	for range 20000 {
		base, a, b := some(), some(), some()
		key, n := texts[next(len(texts))], numbers()[next(len(numbers()))]
		if got, want := May(a), wantMay(a); got != want {
			t.Errorf("May(%v) = %v, want %v", a, got, want)
		}
		if got, want := Get(a, key), wantGet(a, key); got != want {
			t.Errorf("Get(%v, %q) = %d, want %d", a, key, got, want)
		}
		checkInc(t, a, key, n)
		checkMerge(t, base, a, b)
	}
	// Many counts, put in one by one from the last one on.
	var up, got []api.Ctr
	for x := range 1000 {
		up = append(up, api.Ctr{Key: string([]byte{'0' + byte(x/100), '0' + byte(x/10%10), '0' + byte(x%10)}), N: x + 1})
	}
	for i := range up {
		c := up[len(up)-1-i]
		got = Inc(got, c.Key, c.N)
	}
	if !slices.Equal(got, up) || !slices.Equal(Merge(up, up, up), up) || len(Merge(Merge(nil, up, up), up, up)) != 0 {
		t.Error("many counts are not as they were put in")
	}
}
