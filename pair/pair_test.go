package pair

import (
	"cmp"
	"math"
	"regexp"
	"slices"
	"strings"
	"testing"

	"anabranch/api"
)

var one = regexp.MustCompile(`\A[a-z0-9]{1,8}\z`)

// of is a pair; row are some of keys alone, which differ in nothing else; pairs are some, written one behind the other.
func of(key, elem string, node, seq int) api.Pair {
	return api.Pair{Key: key, Elem: elem, Ev: api.Event{Node: node, Seq: seq}}
}

func row(keys ...string) []api.Pair {
	var l []api.Pair
	for _, key := range keys {
		l = append(l, of(key, "x", 0, 1))
	}
	return l
}

func pairs(l ...api.Pair) []api.Pair { return l }

// wrong are texts that may be neither keys nor elements.
func wrong() []string {
	return []string{"", "A", "aB", "abcdefghi", strings.Repeat("z", 300), "`", "{", "/", ":", " ", "a ", "a\x00", "\x00", "\x80", "a\xff", "é", "日本", "a\n"}
}

// numbers are those at the edges, and at the ends.
func numbers() []int {
	return []int{0, 1, -1, 2, -2, 6, 7, 8, 9, 1 << 20, 1<<20 + 1, 1 << 31, 1 << 32, -1 << 32, 1 << 62, math.MaxInt, math.MaxInt - 1, math.MinInt, math.MinInt + 1}
}

// broken are pairs of a key, of which each may not be for one cause alone.
func broken(key string) []api.Pair {
	var l []api.Pair
	for _, elem := range wrong() {
		l = append(l, of(key, elem, 0, 1))
	}
	for _, n := range numbers() {
		if n < 1 {
			l = append(l, of(key, "x", 0, n))
		}
		if n < 0 || n > 7 {
			l = append(l, of(key, "x", n, 1))
		}
	}
	return l
}

// chance answers numbers that seem random, the same ones each time.
func chance(seed uint32) func(int) int {
	return func(n int) int {
		seed = seed*1664525 + 1013904223
		return int(seed>>8) % n
	}
}

// good are pairs that may be: none, one, and several that differ in any part.
func good() [][]api.Pair {
	l := [][]api.Pair{
		nil, {}, row("a"), row("b"), row("0"), row("z"), row("abcdefgh"), row("a", "b"), row("a", "ab", "abc"), row("9z", "a0"), row("0", "9", "a", "z"),
		pairs(of("a", "y", 0, 1)), pairs(of("a", "xx", 0, 1)), pairs(of("a", "x", 7, 1)), pairs(of("a", "x", 0, 2)), pairs(of("a", "x", 0, 1), of("a", "x", 0, 2)),
		pairs(of("a", "x", 0, 9), of("a", "x", 7, 1)), pairs(of("a", "x", 7, 9), of("a", "y", 0, 1)), pairs(of("a", "z", 7, 9), of("b", "a", 0, 1)),
		pairs(of("a", "x", 7, math.MaxInt)), pairs(of("a", "abcdefgh", 3, 1<<20+1), of("b", "0", 7, 1)),
		pairs(of("a", "x", 0, 1), of("a", "x", 1, 1), of("a", "xx", 0, 1), of("a", "y", 0, 3), of("a", "y", 2, 2), of("b", "x", 0, 1)),
	}
	// Pairs of a few keys and elements and small numbers, so that lists have some in common, and some that differ in any part.
	next := chance(5)
	for range 30 {
		var m []api.Pair
		for _, key := range []string{"a", "aa", "b"} {
			for _, elem := range []string{"x", "xx"} {
				for ev := range 4 {
					if next(3) == 0 {
						m = append(m, of(key, elem, ev/2, ev%2+1))
					}
				}
			}
		}
		l = append(l, m)
	}
	return l
}

// bad are pairs that may not be.
func bad() [][]api.Pair {
	l := [][]api.Pair{
		{{}}, {{}, {}},
		// Keys that fall, and pairs that are the same.
		row("b", "a"), row("a", "a"), row("a", "b", "a"), row("a", "c", "b"), row("b", "a", "c"), row("a", "a", "b"), row("a", "b", "b"), row("c", "b", "a"), row("a", "b", "b", "c"),
		// Of which one begins with the other, and which stand otherwise than byte by byte.
		row("ab", "a"), row("abc", "ab"), row("b", "ab"), row("aa", "b", "a"), row("a", "9"), row("a0", "9z"), row("aa", "a0"), row("b", "aaaaaaaa"),
		// What falls in another part, beside rising ones behind it.
		pairs(of("b", "x", 0, 1), of("a", "y", 1, 2)), pairs(of("a", "y", 0, 1), of("a", "x", 1, 2)), pairs(of("a", "xx", 0, 1), of("a", "x", 1, 2)),
		pairs(of("a", "x", 1, 1), of("a", "x", 0, 2)), pairs(of("a", "x", 0, 2), of("a", "x", 0, 1)), pairs(of("a", "x", 0, 1), of("a", "y", 0, 1), of("a", "x", 0, 2)),
		pairs(of("a", "x", 0, 1), of("b", "x", 0, 1), of("b", "x", 0, 1)), pairs(of("a", "x", 0, 2), of("a", "x", 0, 1), of("b", "x", 0, 1)),
	}
	for _, s := range wrong() {
		l = append(l, row(s), row("a", s), row(s, "zz"), row("a", s, "z"))
	}
	for at, key := range []string{"a", "b", "c"} {
		for _, p := range broken(key) {
			m := row("a", "b", "c")
			m[at] = p
			l = append(l, m)
		}
	}
	for _, p := range broken("a") {
		l = append(l, pairs(p))
	}
	return l
}

// wantLess holds part after part against one another.
func wantLess(a, b api.Pair) bool {
	return cmp.Or(slices.Compare([]byte(a.Key), []byte(b.Key)), slices.Compare([]byte(a.Elem), []byte(b.Elem)), cmp.Compare(a.Ev.Node, b.Ev.Node), cmp.Compare(a.Ev.Seq, b.Ev.Seq)) < 0
}

// wantMay asks each pair, and holds each against all that stand behind it.
func wantMay(l []api.Pair) bool {
	for i, p := range l {
		if !one.MatchString(p.Key) || !one.MatchString(p.Elem) || p.Ev.Seq < 1 || !slices.Contains([]int{0, 1, 2, 3, 4, 5, 6, 7}, p.Ev.Node) {
			return false
		}
		for _, q := range l[i+1:] {
			if !wantLess(p, q) {
				return false
			}
		}
	}
	return true
}

// put puts a pair at its place, once.
func put(l []api.Pair, p api.Pair) []api.Pair {
	at := 0
	for at < len(l) && wantLess(l[at], p) {
		at++
	}
	if at < len(l) && l[at] == p {
		return l
	}
	return slices.Insert(slices.Clone(l), at, p)
}

func wantAdd(l []api.Pair, p api.Pair) []api.Pair {
	if !wantMay(l) || !wantMay([]api.Pair{p}) {
		return nil
	}
	return put(l, p)
}

func wantDel(l []api.Pair, key, elem string) []api.Pair {
	if !wantMay(l) {
		return nil
	}
	return slices.DeleteFunc(slices.Clone(l), func(p api.Pair) bool { return p.Key == key && p.Elem == elem })
}

func wantElems(l []api.Pair, key string) []string {
	var elems []string
	for _, p := range l {
		if p.Key != key {
			continue
		}
		if n := len(elems); n == 0 || elems[n-1] != p.Elem {
			elems = append(elems, p.Elem)
		}
	}
	return elems
}

// wantMerge asks for each pair who has it, as the chapter lists it.
func wantMerge(base, a, b []api.Pair) []api.Pair {
	if !wantMay(base) || !wantMay(a) || !wantMay(b) {
		return nil
	}
	var l []api.Pair
	for _, p := range slices.Concat(base, a, b) {
		inBase, inA, inB := slices.Contains(base, p), slices.Contains(a, p), slices.Contains(b, p)
		if inA && inB || inA && !inB && !inBase || inB && !inA && !inBase {
			l = put(l, p)
		}
	}
	return l
}

func checkAdd(t *testing.T, l []api.Pair, p api.Pair) {
	t.Helper()
	if got, want := Add(l, p), wantAdd(l, p); !slices.Equal(got, want) {
		t.Errorf("Add(%v, %v) = %v, want %v", l, p, got, want)
	}
}

func checkDel(t *testing.T, l []api.Pair, key, elem string) {
	t.Helper()
	if got, want := Del(l, key, elem), wantDel(l, key, elem); !slices.Equal(got, want) {
		t.Errorf("Del(%v, %q, %q) = %v, want %v", l, key, elem, got, want)
	}
}

func checkElems(t *testing.T, l []api.Pair, key string) {
	t.Helper()
	if got, want := Elems(l, key), wantElems(l, key); !slices.Equal(got, want) {
		t.Errorf("Elems(%v, %q) = %q, want %q", l, key, got, want)
	}
}

func checkMerge(t *testing.T, base, a, b []api.Pair) {
	t.Helper()
	if got, want := Merge(base, a, b), wantMerge(base, a, b); !slices.Equal(got, want) {
		t.Errorf("Merge(%v, %v, %v) = %v, want %v", base, a, b, got, want)
	}
}

// P8.1: the first part that differs tells, Key, Elem, Node, Seq.
func TestLessEdges(t *testing.T) {
	for _, x := range []struct {
		a, b api.Pair
		want bool
	}{
		// In one part alone, and in nothing.
		{of("a", "x", 1, 1), of("b", "x", 1, 1), true}, {of("a", "x", 1, 1), of("a", "y", 1, 1), true}, {of("a", "x", 1, 1), of("a", "x", 2, 1), true}, {of("a", "x", 1, 1), of("a", "x", 1, 2), true},
		{of("a", "x", 1, 1), of("a", "x", 1, 1), false}, {api.Pair{}, api.Pair{}, false}, {of("a", "x", math.MinInt, math.MaxInt), of("a", "x", math.MinInt, math.MaxInt), false},
		// A lesser one beside what is greater behind it.
		{of("a", "z", 7, 9), of("b", "a", 0, 1), true}, {of("a", "x", 7, 9), of("a", "y", 0, 1), true}, {of("a", "x", 0, 9), of("a", "x", 1, 1), true},
		{of("a", "z", 1, 1), of("b", "a", 1, 1), true}, {of("a", "x", 9, 1), of("b", "x", 1, 1), true}, {of("a", "x", 1, 9), of("b", "x", 1, 1), true}, {of("a", "x", 1, 9), of("a", "y", 1, 1), true},
		// Numbers below 0, and at the ends.
		{of("a", "x", -2, 0), of("a", "x", -1, 0), true}, {of("a", "x", -1, 0), of("a", "x", 0, 0), true}, {of("a", "x", 0, -2), of("a", "x", 0, -1), true}, {of("a", "x", 0, -1), of("a", "x", 0, 0), true},
		{of("a", "x", math.MinInt, 0), of("a", "x", math.MaxInt, 0), true}, {of("a", "x", 0, math.MinInt), of("a", "x", 0, math.MaxInt), true}, {of("a", "x", math.MinInt, math.MaxInt), of("a", "x", math.MaxInt, math.MinInt), true},
		{of("a", "x", math.MinInt, 0), of("a", "x", 1, 0), true}, {of("a", "x", 0, math.MinInt), of("a", "x", 0, 1), true}, {of("a", "x", 7, 1), of("a", "x", 8, 1), true},
		// Texts byte by byte: one that begins with the other, none, and others.
		{of("a", "x", 9, 9), of("ab", "x", 1, 1), true}, {of("a", "x", 9, 9), of("a", "xx", 1, 1), true}, {of("", "x", 9, 9), of("a", "x", 1, 1), true}, {of("a", "", 9, 9), of("a", "x", 1, 1), true},
		{of("", "", 1, 1), of("", "", 1, 1), false}, {of("ab", "", 1, 1), of("b", "", 1, 1), true}, {of("a", "xx", 1, 1), of("a", "y", 1, 1), true}, {of("9", "x", 1, 1), of("a", "x", 1, 1), true}, {of("a", "9", 1, 1), of("a", "a", 1, 1), true},
		{of("Z", "x", 1, 1), of("a", "x", 1, 1), true}, {of("10", "x", 1, 1), of("9", "x", 1, 1), true}, {of("日", "x", 1, 1), of("\xff", "x", 1, 1), true}, {of("a", "日", 1, 1), of("a", "\xff", 1, 1), true},
		{of("a", "x", 1, 1), of("a\x00", "x", 1, 1), true}, {of("a", "x", 1, 1), of("a", "x\x00", 1, 1), true},
		// Not the two texts as one.
		{of("a", "bx", 1, 1), of("ab", "a", 1, 1), true}, {of("a", "bc", 1, 1), of("ab", "c", 1, 1), true},
	} {
		if got := Less(x.a, x.b); got != x.want {
			t.Errorf("Less(%v, %v) = %v, want %v", x.a, x.b, got, x.want)
		}
		if Less(x.b, x.a) {
			t.Errorf("Less(%v, %v) = true, want false", x.b, x.a)
		}
	}
}

// P8.1: all of some parts with one another.
func TestLess(t *testing.T) {
	var l []api.Pair
	for _, key := range []string{"", "a", "ab", "\x80"} {
		for _, elem := range []string{"", "x", "xx", "\xff"} {
			for _, node := range []int{math.MinInt, -1, 0, 7, math.MaxInt} {
				for _, seq := range []int{math.MinInt, 0, 1, math.MaxInt} {
					l = append(l, of(key, elem, node, seq))
				}
			}
		}
	}
	for _, a := range l {
		for _, b := range l {
			if got, want := Less(a, b), wantLess(a, b); got != want {
				t.Errorf("Less(%v, %v) = %v, want %v", a, b, got, want)
			}
		}
	}
}

// P8.1: pairs that may be alone, and that rise, none twice.
func TestMay(t *testing.T) {
	for _, l := range good() {
		if !May(l) || !wantMay(l) {
			t.Errorf("%v may not be", l)
		}
	}
	for _, l := range bad() {
		if May(l) || wantMay(l) {
			t.Errorf("%v may be", l)
		}
	}
}

// P8.1: the edges by name.
func TestMayEdges(t *testing.T) {
	for _, x := range []struct {
		l    []api.Pair
		want bool
	}{
		{nil, true}, {[]api.Pair{}, true}, {[]api.Pair{{}}, false}, {row("a"), true},
		// Pairs that rise, that fall, that are the same, in each part.
		{row("a", "b"), true}, {row("b", "a"), false}, {row("a", "a"), false}, {row("a", "ab"), true}, {row("ab", "a"), false}, {row("ab", "b"), true}, {row("b", "ab"), false}, {row("9", "a"), true}, {row("a", "9"), false},
		{pairs(of("a", "x", 0, 1), of("a", "y", 0, 1)), true}, {pairs(of("a", "y", 0, 1), of("a", "x", 0, 1)), false}, {pairs(of("a", "x", 0, 1), of("a", "xx", 0, 1)), true}, {pairs(of("a", "xx", 0, 1), of("a", "x", 0, 1)), false},
		{pairs(of("a", "x", 0, 1), of("a", "x", 1, 1)), true}, {pairs(of("a", "x", 1, 1), of("a", "x", 0, 1)), false}, {pairs(of("a", "x", 0, 1), of("a", "x", 0, 2)), true}, {pairs(of("a", "x", 0, 2), of("a", "x", 0, 1)), false},
		{pairs(of("a", "z", 7, 9), of("b", "a", 0, 1)), true}, {pairs(of("a", "x", 7, 9), of("a", "y", 0, 1)), true}, {pairs(of("a", "x", 0, 9), of("a", "x", 1, 1)), true}, {pairs(of("b", "a", 0, 1), of("a", "z", 7, 9)), false},
		{row("a", "b", "c"), true}, {row("a", "c", "b"), false}, {row("b", "a", "c"), false}, {row("a", "b", "b"), false}, {row("a", "a", "b"), false}, {row("c", "a", "b"), false}, {row("a", "b", "a"), false},
		// Keys that may not be, at each place.
		{row("abcdefgh"), true}, {row("abcdefghi"), false}, {row(""), false}, {row("A"), false},
		{row("", "b", "c"), false}, {row("A", "b", "c"), false}, {row("a", "b`", "c"), false}, {row("a", "b", "é"), false}, {row("a", "b", "cdefghijk"), false},
		// Elements, at each place.
		{pairs(of("a", "abcdefgh", 0, 1)), true}, {pairs(of("a", "abcdefghi", 0, 1)), false}, {pairs(of("a", "", 0, 1)), false}, {pairs(of("a", "X", 0, 1)), false},
		{pairs(of("a", "", 0, 1), of("a", "x", 0, 1), of("a", "y", 0, 1)), false}, {pairs(of("a", "x", 0, 1), of("a", "x`", 0, 1), of("a", "y", 0, 1)), false}, {pairs(of("a", "x", 0, 1), of("a", "y", 0, 1), of("a", "é", 0, 1)), false},
		// Node.
		{pairs(of("a", "x", -1, 1)), false}, {pairs(of("a", "x", 0, 1)), true}, {pairs(of("a", "x", 7, 1)), true}, {pairs(of("a", "x", 8, 1)), false}, {pairs(of("a", "x", math.MaxInt, 1)), false}, {pairs(of("a", "x", math.MinInt, 1)), false},
		{pairs(of("a", "x", 256, 1)), false}, {pairs(of("a", "x", 1<<32, 1)), false}, {pairs(of("a", "x", -1, 1), of("a", "x", 0, 1)), false}, {pairs(of("a", "x", 7, 1), of("a", "x", 8, 1)), false}, {pairs(of("a", "x", 0, 1), of("a", "x", 8, 1), of("b", "x", 0, 1)), false},
		// Seq.
		{pairs(of("a", "x", 0, 0)), false}, {pairs(of("a", "x", 0, -1)), false}, {pairs(of("a", "x", 0, math.MaxInt)), true}, {pairs(of("a", "x", 0, math.MinInt)), false}, {pairs(of("a", "x", 0, 1<<20)), true}, {pairs(of("a", "x", 0, 1<<20+1)), true},
		{pairs(of("a", "x", 0, 0), of("a", "x", 0, 1)), false}, {pairs(of("a", "x", 0, 1), of("a", "x", 1, 0)), false}, {pairs(of("a", "x", 0, 1), of("a", "x", 0, math.MaxInt)), true},
	} {
		if got := May(x.l); got != x.want {
			t.Errorf("May(%v) = %v, want %v", x.l, got, x.want)
		}
	}
	// Each text that may be no key and no element, at each place among others; it is the text that tells, as the pairs rise.
	for _, s := range wrong() {
		for _, l := range [][]api.Pair{row(s), row(s, s+"0"), row(s[:len(s)/2], s), pairs(of("a", s[:len(s)/2], 0, 1), of("a", s, 0, 1)), pairs(of("a", s, 0, 1), of("b", "x", 0, 1)), pairs(of("a", "x", 0, 1), of("b", s, 0, 1))} {
			if May(l) {
				t.Errorf("%v may be", l)
			}
		}
	}
}

// P8.1: many pairs, of which one place after the other is not as it may be.
func TestMayMany(t *testing.T) {
	var many []api.Pair
	for x := range 6 * 6 * 6 * 2 {
		many = append(many, of(string('a'+rune(x/72)), string('u'+rune(x/12%6)), x/2%6, x%2+1))
	}
	if !May(many) {
		t.Error("many pairs may not be")
	}
	for i := range len(many) - 1 {
		same, fall := slices.Clone(many), slices.Clone(many)
		same[i+1] = same[i]
		fall[i], fall[i+1] = fall[i+1], fall[i]
		if May(same) || May(fall) {
			t.Errorf("place %d: %v %v", i, May(same), May(fall))
		}
		for _, p := range broken(many[i].Key) {
			l := slices.Clone(many)
			l[i] = p
			if May(l) {
				t.Errorf("place %d: %v may be", i, p)
			}
		}
	}
}

// P8.2: that one pair is there, too; nothing, if one may not be.
func TestAdd(t *testing.T) {
	var all []api.Pair
	for _, s := range append(wrong(), "0", "a", "a0", "aa", "ab", "b", "z", "zz", "abcdefgh") {
		all = append(all, of(s, "x", 0, 1), of(s, "xx", 1, 2), of(s, "y", 7, 1), of(s, "0", 0, math.MaxInt), of("a", s, 0, 1), of("aa", s, 1, 2))
	}
	all = append(append(all, broken("a")...), broken("b")...)
	for _, l := range append(good(), bad()...) {
		for _, p := range append(all, l...) {
			checkAdd(t, l, p)
		}
	}
}

// P8.2: the edges of Add by name.
func TestAddEdges(t *testing.T) {
	b, d := of("b", "m", 3, 4), of("d", "m", 0, 1)
	l := pairs(b, d)
	for _, x := range []struct {
		l    []api.Pair
		p    api.Pair
		want []api.Pair
	}{
		// One that is not there: into nothing, ahead, between, behind.
		{nil, b, pairs(b)}, {[]api.Pair{}, b, pairs(b)}, {l, row("a")[0], pairs(row("a")[0], b, d)}, {l, row("c")[0], pairs(b, row("c")[0], d)}, {l, row("e")[0], pairs(b, d, row("e")[0])},
		{row("ab"), row("a")[0], row("a", "ab")}, {row("a"), row("ab")[0], row("a", "ab")}, {row("a"), row("9")[0], row("9", "a")}, {row("b"), row("aaaaaaaa")[0], row("aaaaaaaa", "b")},
		// Of the same key, by another element, ahead and behind.
		{l, of("b", "l", 3, 4), pairs(of("b", "l", 3, 4), b, d)}, {l, of("b", "mm", 3, 4), pairs(b, of("b", "mm", 3, 4), d)}, {l, of("d", "l", 7, 9), pairs(b, of("d", "l", 7, 9), d)},
		// Of the same key and element, by another event, ahead and behind.
		{l, of("b", "m", 2, 9), pairs(of("b", "m", 2, 9), b, d)}, {l, of("b", "m", 4, 1), pairs(b, of("b", "m", 4, 1), d)}, {l, of("b", "m", 3, 3), pairs(of("b", "m", 3, 3), b, d)}, {l, of("b", "m", 3, 5), pairs(b, of("b", "m", 3, 5), d)},
		{l, of("d", "m", 0, 2), pairs(b, d, of("d", "m", 0, 2))}, {l, of("d", "m", 7, 1), pairs(b, d, of("d", "m", 7, 1))},
		// One that is there.
		{l, b, l}, {l, d, l}, {row("a"), row("a")[0], row("a")}, {row("a", "b", "c"), row("b")[0], row("a", "b", "c")},
		// Pairs that may not be.
		{row("b", "a"), row("c")[0], nil}, {row("a", "a"), row("a")[0], nil}, {row("A"), row("a")[0], nil}, {pairs(of("a", "x", 0, 0)), of("a", "x", 0, 1), nil}, {pairs(b, of("d", "", 0, 1)), d, nil}, {pairs(of("a", "x", 8, 1)), of("a", "x", 7, 1), nil},
		// One that may not be, for each cause.
		{l, of("", "x", 0, 1), nil}, {l, of("B", "x", 0, 1), nil}, {l, of("abcdefghi", "x", 0, 1), nil}, {l, of("b", "", 0, 1), nil}, {l, of("b", "X", 0, 1), nil}, {l, of("b", "abcdefghi", 0, 1), nil},
		{l, of("b", "x", -1, 1), nil}, {l, of("b", "x", 8, 1), nil}, {l, of("b", "x", 0, 0), nil}, {l, of("b", "x", 0, -1), nil},
		{l, api.Pair{}, nil}, {nil, api.Pair{}, nil}, {nil, of("a", "x", 0, 0), nil}, {row("A"), row("A")[0], nil},
	} {
		if got := Add(x.l, x.p); !slices.Equal(got, x.want) {
			t.Errorf("Add(%v, %v) = %v, want %v", x.l, x.p, got, x.want)
		}
		checkAdd(t, x.l, x.p)
	}
	for _, p := range append(broken("b"), broken("c")...) {
		if got := Add(l, p); len(got) != 0 {
			t.Errorf("Add(%v, %v) = %v, want nothing", l, p, got)
		}
	}
}

// P8.2: all but those of that key and that element; nothing, if one may not be.
func TestDel(t *testing.T) {
	texts := append(wrong(), "0", "a", "aa", "ab", "b", "x", "xx", "y", "z", "abcdefgh", "nothere")
	for _, l := range append(good(), bad()...) {
		for _, key := range texts {
			for _, elem := range texts {
				checkDel(t, l, key, elem)
			}
		}
		for _, p := range l {
			checkDel(t, l, p.Key, p.Elem)
		}
	}
}

// P8.2: the edges of Del by name.
func TestDelEdges(t *testing.T) {
	l := pairs(of("a", "x", 0, 1), of("a", "x", 0, 2), of("a", "x", 3, 1), of("a", "xx", 0, 1), of("a", "y", 0, 1), of("b", "x", 0, 1), of("x", "a", 0, 1))
	for _, c := range []struct {
		l         []api.Pair
		key, elem string
		want      []api.Pair
	}{
		{nil, "a", "x", nil}, {[]api.Pair{}, "a", "x", nil}, {row("a"), "a", "x", nil}, {nil, "", "", nil},
		// Once, several times, by several events.
		{l, "a", "xx", slices.Delete(slices.Clone(l), 3, 4)}, {l, "a", "y", slices.Delete(slices.Clone(l), 4, 5)}, {l, "b", "x", slices.Delete(slices.Clone(l), 5, 6)}, {l, "x", "a", l[:6]}, {l, "a", "x", l[3:]},
		{l[:3], "a", "x", nil}, {l[:2], "a", "x", nil}, {l[1:4], "a", "x", l[3:4]},
		// Not at all; the key with another element, the element with another key.
		{l, "c", "z", l}, {l, "a", "z", l}, {l, "b", "y", l}, {l, "b", "xx", l}, {l, "y", "a", l}, {l, "c", "x", l}, {l, "x", "x", l}, {row("a"), "x", "a", row("a")}, {row("ab"), "a", "bx", row("ab")}, {row("ab"), "a", "x", row("ab")}, {row("a"), "a", "xx", row("a")},
		// Texts that may not be a key, or an element: nothing is taken away.
		{l, "", "", l}, {l, "", "x", l}, {l, "a", "", l}, {l, "A", "x", l}, {l, "a", "X", l}, {l, "abcdefghi", "x", l}, {l, "a", "x\x00", l}, {l, "a\x00", "x", l}, {l, "\xff", "é", l},
		// Pairs that may not be, also where what is taken away is what may not be.
		{row("b", "a"), "c", "x", nil}, {row("b", "a"), "b", "x", nil}, {row("a", "a"), "a", "x", nil}, {row("a", "a"), "b", "x", nil}, {row("A", "b"), "A", "x", nil}, {row("A", "b"), "b", "x", nil}, {pairs(of("a", "", 0, 1), of("b", "x", 0, 1)), "a", "", nil},
		{pairs(of("a", "x", 8, 1), of("b", "x", 0, 1)), "a", "x", nil}, {pairs(of("a", "x", 0, 0), of("b", "x", 0, 1)), "a", "x", nil}, {pairs(api.Pair{}, of("b", "x", 0, 1)), "", "", nil},
	} {
		if got := Del(c.l, c.key, c.elem); !slices.Equal(got, c.want) {
			t.Errorf("Del(%v, %q, %q) = %v, want %v", c.l, c.key, c.elem, got, c.want)
		}
		checkDel(t, c.l, c.key, c.elem)
	}
}

// P8.2: the elements of a key, in order, once if they stand one behind the other.
func TestElems(t *testing.T) {
	l := pairs(of("a", "x", 0, 1), of("a", "x", 0, 2), of("a", "x", 3, 1), of("a", "xx", 0, 1), of("a", "y", 0, 1), of("a", "y", 1, 1), of("b", "x", 0, 1), of("c", "x", 0, 1), of("c", "x", 1, 1))
	x, y, z := of("a", "x", 0, 1), of("a", "y", 0, 1), of("b", "z", 0, 1)
	for _, c := range []struct {
		l    []api.Pair
		key  string
		want []string
	}{
		{nil, "a", nil}, {nil, "", nil}, {[]api.Pair{}, "a", nil},
		// One element, several, one several times, none.
		{l, "b", []string{"x"}}, {l, "a", []string{"x", "xx", "y"}}, {l, "c", []string{"x"}}, {l, "d", nil}, {l, "x", nil}, {l, "", nil}, {l, "A", nil}, {row("ab"), "a", nil}, {row("a"), "ab", nil}, {row("a", "c"), "b", nil},
		// Pairs that may not be: an element again behind another one, and beside another key.
		{pairs(x, y, x), "a", []string{"x", "y", "x"}}, {pairs(y, x, x, y, y, x), "a", []string{"y", "x", "y", "x"}}, {pairs(y, x), "a", []string{"y", "x"}}, {pairs(x, z, x), "a", []string{"x"}}, {pairs(x, z, y, z, x), "a", []string{"x", "y", "x"}},
		{pairs(x, x), "a", []string{"x"}}, {pairs(z, x, z), "b", []string{"z"}}, {pairs(z, x), "a", []string{"x"}},
		{[]api.Pair{{}}, "", []string{""}}, {[]api.Pair{{}, {}}, "", []string{""}}, {pairs(of("a", "", 0, 0)), "a", []string{""}}, {pairs(of("a", "", 0, 0), x, of("a", "", -1, 0)), "a", []string{"", "x", ""}},
		{row("A"), "A", []string{"x"}}, {row("A"), "a", nil}, {row("a\x00"), "a", nil}, {row("\xff"), "\xff", []string{"x"}}, {row("\xff"), "\xfe", nil}, {row("abcdefghi"), "abcdefghi", []string{"x"}}, {pairs(of("é", "日", 9, 0), of("é", "\xff", 9, 0)), "é", []string{"日", "\xff"}},
		{pairs(of("a", "x", -1, 1), of("a", "x", math.MaxInt, 0)), "a", []string{"x"}},
	} {
		if got := Elems(c.l, c.key); !slices.Equal(got, c.want) {
			t.Errorf("Elems(%v, %q) = %q, want %q", c.l, c.key, got, c.want)
		}
	}
	for _, l := range append(good(), bad()...) {
		keys := append(wrong(), "a", "aa", "ab", "b", "c", "x", "z", "0", "zz", "nothere")
		for _, p := range l {
			keys = append(keys, p.Key)
		}
		for _, key := range keys {
			checkElems(t, l, key)
			checkElems(t, slices.Concat(l, l), key)
		}
	}
}

// The chapter's example, with the pairs as they are come by.
func TestExample(t *testing.T) {
	base := Add(nil, of("a", "x", 0, 1))
	gone, again := Del(base, "a", "x"), Add(base, of("a", "x", 0, 2))
	anew := Add(gone, of("a", "x", 0, 2))
	for _, two := range [][2][]api.Pair{{gone, again}, {again, gone}, {gone, anew}, {anew, gone}} {
		if got := Merge(base, two[0], two[1]); !slices.Equal(got, pairs(of("a", "x", 0, 2))) {
			t.Error(got)
		}
	}
}

// P8.3: those that a and b have, and what one of them alone has, if base has not.
func TestMerge(t *testing.T) {
	for _, base := range good() {
		for _, a := range good() {
			for _, b := range good() {
				checkMerge(t, base, a, b)
			}
		}
	}
}

// P8.3: nothing, if one of the three may not be, whichever it is.
func TestMergeBad(t *testing.T) {
	ok := row("a", "b")
	for _, x := range bad() {
		for _, three := range [][3][]api.Pair{
			{x, ok, ok}, {ok, x, ok}, {ok, ok, x}, {x, x, ok}, {x, ok, x}, {ok, x, x}, {x, x, x},
			{x, nil, nil}, {nil, x, nil}, {nil, nil, x}, {x, row("q"), nil}, {nil, x, row("q")}, {row("q"), nil, x},
		} {
			if got := Merge(three[0], three[1], three[2]); len(got) != 0 {
				t.Errorf("Merge(%v, %v, %v) = %v, want nothing", three[0], three[1], three[2], got)
			}
		}
	}
}

// P8.3: the edges by name.
func TestMergeEdges(t *testing.T) {
	x, y := of("a", "x", 0, 1), of("a", "x", 0, 2)
	for _, c := range []struct{ base, a, b, want []api.Pair }{
		{nil, nil, nil, nil}, {[]api.Pair{}, []api.Pair{}, []api.Pair{}, nil},
		// One pair, by who has it: base alone, a, b, both, without base and with it.
		{row("a"), nil, nil, nil}, {nil, row("a"), nil, row("a")}, {nil, nil, row("a"), row("a")}, {nil, row("a"), row("a"), row("a")},
		{row("a"), row("a"), nil, nil}, {row("a"), nil, row("a"), nil}, {row("a"), row("a"), row("a"), row("a")},
		// Nothing in each of them, beside several.
		{nil, row("a", "c"), row("b", "d"), row("a", "b", "c", "d")}, {nil, row("b", "d"), row("a", "c"), row("a", "b", "c", "d")}, {row("a", "b"), nil, row("b", "c"), row("c")}, {row("a", "b"), row("b", "c"), nil, row("c")},
		{row("a", "b"), row("a", "b"), nil, nil}, {row("a", "b"), nil, row("a", "b"), nil},
		// All of them at once.
		{row("a", "b", "c", "d"), row("a", "b", "e", "f"), row("a", "c", "e", "g"), row("a", "e", "f", "g")},
		// In order, whichever has them.
		{row("b"), row("d"), row("a", "c"), row("a", "c", "d")}, {nil, row("ab"), row("a", "abc"), row("a", "ab", "abc")}, {nil, row("a"), row("9"), row("9", "a")},
		// Events of one key and element are pairs of their own.
		{pairs(x), nil, pairs(y), pairs(y)}, {pairs(x), pairs(y), nil, pairs(y)}, {pairs(x), pairs(x), pairs(y), pairs(y)}, {pairs(x), pairs(x), pairs(x, y), pairs(x, y)}, {pairs(x), nil, pairs(x, y), pairs(y)}, {nil, pairs(x), pairs(y), pairs(x, y)}, {nil, pairs(y), pairs(x), pairs(x, y)},
		{pairs(x, y), pairs(x), pairs(y), nil}, {pairs(x, y), pairs(x), pairs(x, y), pairs(x)}, {pairs(y), pairs(x), nil, pairs(x)}, {pairs(of("a", "x", 1, 1)), pairs(of("a", "x", 1, 1)), pairs(of("a", "x", 0, 1)), pairs(of("a", "x", 0, 1))},
		{row("a"), row("a"), row("b"), row("b")}, {pairs(x), pairs(x), pairs(of("a", "y", 0, 1)), pairs(of("a", "y", 0, 1))},
	} {
		if got := Merge(c.base, c.a, c.b); !slices.Equal(got, c.want) {
			t.Errorf("Merge(%v, %v, %v) = %v, want %v", c.base, c.a, c.b, got, c.want)
		}
		checkMerge(t, c.base, c.a, c.b)
	}
}

// P8.4: what one side adds by an event of its own is there, while what the other one takes away, with all that it had, is not.
func TestAddWins(t *testing.T) {
	for _, base := range good() {
		for _, key := range []string{"a", "aa", "b", "q"} {
			for _, elem := range []string{"x", "xx", "q"} {
				added := of(key, elem, 5, 1000)
				one, two := Del(base, key, elem), Add(base, added)
				want := Add(one, added)
				for _, got := range [][]api.Pair{Merge(base, one, two), Merge(base, two, one)} {
					if !slices.Equal(got, want) || !slices.Contains(got, added) || !slices.Contains(Elems(got, key), elem) {
						t.Errorf("from %v: %v added while %q %q was taken away: %v", base, added, key, elem, got)
					}
				}
			}
		}
	}
}

// P8.4: whichever is a; and with base as one of both it is the other one.
func TestEither(t *testing.T) {
	for _, a := range good() {
		for _, b := range good() {
			if got := Merge(a, a, b); !slices.Equal(got, b) {
				t.Errorf("Merge(%v, %v, %v) = %v, want %v", a, a, b, got, b)
			}
			if got := Merge(b, a, b); !slices.Equal(got, a) {
				t.Errorf("Merge(%v, %v, %v) = %v, want %v", b, a, b, got, a)
			}
			for _, base := range good() {
				ab, ba := Merge(base, a, b), Merge(base, b, a)
				if !slices.Equal(ab, ba) {
					t.Errorf("from %v: %v and %v are merged as %v, the other way round as %v", base, a, b, ab, ba)
				}
				if !May(ab) {
					t.Errorf("from %v: %v and %v are merged as %v, which may not be", base, a, b, ab)
				}
			}
		}
	}
}

// P2: three that come from one are merged to the same, in whatever order.
func TestOrder(t *testing.T) {
	all := good()
	for i, base := range all {
		for j, a := range all {
			b, c := all[(i*3+j*5+1)%len(all)], all[(i*7+j*2+4)%len(all)]
			want := Merge(base, Merge(base, a, b), c)
			for _, got := range [][]api.Pair{
				Merge(base, a, Merge(base, b, c)), Merge(base, Merge(base, c, a), b), Merge(base, c, Merge(base, b, a)), Merge(base, Merge(base, b, c), a),
				Merge(a, Merge(base, a, b), Merge(base, a, c)), Merge(b, Merge(base, c, b), Merge(base, b, a)),
			} {
				if !slices.Equal(got, want) {
					t.Errorf("from %v: %v, %v and %v are merged as %v, and as %v", base, a, b, c, want, got)
				}
			}
		}
	}
}

// R3: what is handed in stays, also behind its end, and what is answered is new.
func TestOwn(t *testing.T) {
	calls := []struct {
		name string
		f    func(base, a, b []api.Pair) []api.Pair
	}{
		{"Merge", Merge},
		{"Merge with nothing", func(base, a, b []api.Pair) []api.Pair { return Merge(nil, a, nil) }},
		{"Merge of nothing", func(base, a, b []api.Pair) []api.Pair { return Merge(nil, nil, a) }},
		{"Merge with base", func(base, a, b []api.Pair) []api.Pair { return Merge(base, base, a) }},
		{"Merge with itself", func(base, a, b []api.Pair) []api.Pair { return Merge(a, a, a) }},
		{"Add", func(base, a, b []api.Pair) []api.Pair { return Add(a, of("a5", "x", 0, 1)) }},
		{"Add ahead of all", func(base, a, b []api.Pair) []api.Pair { return Add(a, of("0", "0", 0, 1)) }},
		{"Add behind all", func(base, a, b []api.Pair) []api.Pair { return Add(a, of("zzzzzzzz", "z", 7, 9)) }},
		{"Add of the same one", func(base, a, b []api.Pair) []api.Pair {
			if len(a) == 0 {
				return nil
			}
			return Add(a, a[len(a)-1])
		}},
		{"Add of none", func(base, a, b []api.Pair) []api.Pair { return Add(a, api.Pair{}) }},
		{"Del", func(base, a, b []api.Pair) []api.Pair { return Del(a, "a", "x") }},
		{"Del of what is not there", func(base, a, b []api.Pair) []api.Pair { return Del(a, "q", "q") }},
		{"Del of none", func(base, a, b []api.Pair) []api.Pair { return Del(a, "", "") }},
		{"May, Less and Elems", func(base, a, b []api.Pair) []api.Pair {
			May(a)
			Less(api.Pair{}, api.Pair{})
			Elems(a, "a")
			return nil
		}},
	}
	all := append(good(), bad()...)
	for _, c := range calls {
		for i, l := range all {
			var rooms, keeps [3][]api.Pair
			for k, m := range [][]api.Pair{all[(i*3+1)%len(all)], l, all[(i*5+2)%len(all)]} {
				rooms[k] = append(slices.Clone(m), of("y", "y", 7, 77), api.Pair{})
				keeps[k] = slices.Clone(rooms[k])
			}
			call := func() []api.Pair {
				return c.f(rooms[0][:len(rooms[0])-2], rooms[1][:len(rooms[1])-2], rooms[2][:len(rooms[2])-2])
			}
			same := func(what string) {
				for k := range rooms {
					if !slices.Equal(rooms[k], keeps[k]) {
						t.Fatalf("%s: %s", c.name, what)
					}
				}
			}
			got := call()
			same("what is handed in is changed")
			want := slices.Clone(got)
			for k := range rooms {
				for j := range rooms[k] {
					rooms[k][j] = of("q", "q", 1, 99)
				}
			}
			if !slices.Equal(got, want) {
				t.Fatalf("%s: the answer changes with what was handed in", c.name)
			}
			for k := range rooms {
				copy(rooms[k], keeps[k])
			}
			full := got[:cap(got)]
			for j := range full {
				full[j] = of("r", "r", 2, 98)
			}
			same("what was handed in changes with the answer")
			if again := call(); !slices.Equal(again, want) {
				t.Fatalf("%s: another answer the next time", c.name)
			}
		}
	}
}

// R3: the elements that are answered are the caller's own.
func TestOwnElems(t *testing.T) {
	l := pairs(of("a", "x", 0, 1), of("a", "x", 0, 2), of("a", "y", 0, 1))
	keep := slices.Clone(l)
	got := Elems(l, "a")
	l[0].Elem, l[2].Elem = "q", "q"
	if !slices.Equal(got, []string{"x", "y"}) {
		t.Error("the elements change with the pairs")
	}
	copy(l, keep)
	got[0], got[1] = "r", "r"
	if again := Elems(l, "a"); !slices.Equal(l, keep) || !slices.Equal(again, []string{"x", "y"}) {
		t.Error("the pairs change with the elements", l, again)
	}
}

// P1, R1, R5: every call ends, none panics, whatever it is given, and each answers as the chapter says.
func TestAny(t *testing.T) {
	texts := append(wrong(), strings.Repeat("a", 1<<16), "a", "a", "b", "c", "aa", "0", "x", "y")
	next := chance(9)
	text := func() string { return texts[next(len(texts))] }
	number := func() int {
		if next(2) == 0 {
			return 1
		}
		return numbers()[next(len(numbers()))]
	}
	odd := func() api.Pair { return of(text(), text(), number(), number()) }
	even := func() api.Pair { return of(string('a'+rune(next(2))), string('x'+rune(next(2))), next(2), 1+next(2)) }
	some := func() []api.Pair {
		l := make([]api.Pair, next(6))
		strange := next(4) == 0
		for i := range l {
			l[i] = even()
			if strange && next(3) == 0 {
				l[i] = odd()
			}
		}
		if next(6) > 0 {
			slices.SortFunc(l, func(a, b api.Pair) int {
				if wantLess(a, b) {
					return -1
				}
				return 1
			})
			l = slices.Compact(l)
		}
		return l
	}
	for range 40000 {
		base, a, b, p, q := some(), some(), some(), odd(), odd()
		if got, want := May(a), wantMay(a); got != want {
			t.Errorf("May(%v) = %v, want %v", a, got, want)
		}
		if got, want := Less(p, q), wantLess(p, q); got != want {
			t.Errorf("Less(%v, %v) = %v, want %v", p, q, got, want)
		}
		checkAdd(t, a, p)
		checkAdd(t, a, even())
		checkDel(t, a, text(), text())
		checkDel(t, a, "a", "x")
		checkElems(t, a, text())
		checkElems(t, a, "a")
		checkMerge(t, base, a, b)
	}
}

// R1: many pairs, put in one by one from the last one on, taken away again, and merged at once.
func TestMany(t *testing.T) {
	var up, got []api.Pair
	for x := range 1000 {
		up = append(up, of(string('0'+rune(x/100)), string('0'+rune(x/10%10)), x%10/2, x%2+1))
	}
	for i := range up {
		got = Add(got, up[len(up)-1-i])
	}
	if !slices.Equal(got, up) || !slices.Equal(Merge(up, up, up), up) || !slices.Equal(Merge(nil, up[:500], up[300:]), up) || len(Merge(up, up[:500], up[500:])) != 0 {
		t.Error("many pairs are not as they were put in")
	}
	if elems := Elems(up, "7"); strings.Join(elems, "") != "0123456789" {
		t.Error(elems)
	}
	for x := range 100 {
		got = Del(got, string('0'+rune(x/10)), string('0'+rune(x%10)))
		if !slices.Equal(got, up[x*10+10:]) {
			t.Errorf("%d: %v", x, got)
		}
	}
}
