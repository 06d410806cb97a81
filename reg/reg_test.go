package reg

import (
	"math"
	"regexp"
	"slices"
	"strings"
	"testing"

	"anabranch/api"
)

var one = regexp.MustCompile(`\A[a-z0-9]{1,8}\z`)

// of is a register; row are some of keys alone, which differ in nothing else.
func of(key, elem string, gen, node, seq int) api.Reg {
	return api.Reg{Key: key, Elem: elem, Gen: gen, Ev: api.Event{Node: node, Seq: seq}}
}

func row(keys ...string) []api.Reg {
	var l []api.Reg
	for _, key := range keys {
		l = append(l, of(key, "x", 1, 0, 1))
	}
	return l
}

// regs are some registers, written one behind the other.
func regs(l ...api.Reg) []api.Reg { return l }

// wrong are texts that may be neither keys nor elements.
func wrong() []string {
	return []string{"", "A", "aB", "abcdefghi", strings.Repeat("z", 300), "`", "{", "/", ":", " ", "a ", "a\x00", "\x00", "\x80", "a\xff", "é", "日本", "a\n"}
}

// numbers are those at the edges, and at the ends.
func numbers() []int {
	return []int{0, 1, -1, 2, -2, 6, 7, 8, 9, 1 << 20, 1<<20 + 1, 1 << 31, 1 << 32, -1 << 32, 1 << 62, math.MaxInt, math.MaxInt - 1, math.MinInt, math.MinInt + 1}
}

// broken are registers of a key, of which each may not be for one cause alone.
func broken(key string) []api.Reg {
	var l []api.Reg
	for _, elem := range wrong() {
		l = append(l, of(key, elem, 1, 0, 1))
	}
	for _, n := range numbers() {
		if n < 1 {
			l = append(l, of(key, "x", n, 0, 1), of(key, "x", 1, 0, n))
		}
		if n < 0 || n > 7 {
			l = append(l, of(key, "x", 1, n, 1))
		}
	}
	return l
}

// chance answers numbers that seem random, the same ones each time.
func chance(seed uint32) func(int) int {
	return func(n int) int {
		seed = seed*1664525 + 1013904223
		return int(seed>>8) % n
	}
}

// good are registers that may be: none, one, and several that have keys in common, or none, older ones and newer ones.
func good() [][]api.Reg {
	l := [][]api.Reg{
		nil, {}, row("a"), row("b"), row("0"), row("z"), row("abcdefgh"), row("a", "b"), row("a", "ab", "abc"), row("9z", "a0"), row("0", "9", "a", "z"),
		regs(of("a", "x", 2, 0, 1)), regs(of("a", "x", 1, 7, 1)), regs(of("a", "x", 1, 0, 2)), regs(of("a", "y", 1, 0, 1)), regs(of("a", "xx", 1, 0, 1)),
		regs(of("a", "x", math.MaxInt, 7, math.MaxInt)), regs(of("a", "abcdefgh", 1, 3, 1<<20+1), of("b", "0", 1<<20+1, 7, 1)),
		regs(of("a", "z", 1, 7, 9), of("b", "a", 2, 0, 1), of("c", "m", 3, 3, 3)), regs(of("a", "a", 2, 0, 1), of("c", "z", 1, 7, 9), of("d", "m", 1, 1, 1)),
	}
	// Registers of a few keys and small numbers, so that lists have keys in common that differ in any part.
	next := chance(5)
	for range 40 {
		var m []api.Reg
		for _, key := range []string{"0", "a", "aa", "b", "k7", "zz"} {
			if next(2) == 0 {
				m = append(m, of(key, []string{"x", "xx", "y"}[next(3)], next(2)+1, next(2), next(2)+1))
			}
		}
		l = append(l, m)
	}
	return l
}

// bad are registers that may not be.
func bad() [][]api.Reg {
	l := [][]api.Reg{
		{{}}, {{}, {}},
		// Keys that fall, and that are the same.
		row("b", "a"), row("a", "a"), regs(of("a", "x", 1, 0, 1), of("a", "y", 2, 0, 2)), row("a", "b", "a"), row("a", "c", "b"), row("b", "a", "c"),
		row("a", "a", "b"), row("a", "b", "b"), row("c", "b", "a"), row("a", "b", "b", "c"),
		// Of which one begins with the other, and which stand otherwise than byte by byte.
		row("ab", "a"), row("abc", "ab"), row("b", "ab"), row("aa", "b", "a"), row("a", "9"), row("a0", "9z"), row("aa", "a0"), row("b", "aaaaaaaa"),
	}
	for _, s := range wrong() {
		l = append(l, row(s), row("a", s), row(s, "zz"), row("a", s, "z"))
	}
	for at, key := range []string{"a", "b", "c"} {
		for _, r := range broken(key) {
			m := row("a", "b", "c")
			m[at] = r
			l = append(l, m)
		}
	}
	for _, r := range broken("a") {
		l = append(l, regs(r))
	}
	return l
}

// wantMay asks each register, and holds each key against all that stand behind it.
func wantMay(l []api.Reg) bool {
	for i, r := range l {
		if !one.MatchString(r.Key) || !one.MatchString(r.Elem) || r.Gen < 1 || r.Ev.Seq < 1 || !slices.Contains([]int{0, 1, 2, 3, 4, 5, 6, 7}, r.Ev.Node) {
			return false
		}
		for _, s := range l[i+1:] {
			if strings.Compare(r.Key, s.Key) != -1 {
				return false
			}
		}
	}
	return true
}

// wantNewer holds the numbers against one another in their order, and then the texts.
func wantNewer(a, b api.Reg) bool {
	n := slices.Compare([]int{a.Gen, a.Ev.Node, a.Ev.Seq}, []int{b.Gen, b.Ev.Node, b.Ev.Seq})
	if n == 0 {
		n = slices.Compare([]byte(a.Elem), []byte(b.Elem))
	}
	return n > 0
}

func wantGet(l []api.Reg, key string) (api.Reg, bool) {
	i := slices.IndexFunc(l, func(r api.Reg) bool { return r.Key == key })
	if i < 0 {
		return api.Reg{}, false
	}
	return l[i], true
}

// wantPut takes what the key has out, and puts the newer one in at its place.
func wantPut(l []api.Reg, r api.Reg) []api.Reg {
	if !wantMay(l) || !wantMay([]api.Reg{r}) {
		return nil
	}
	if old, is := wantGet(l, r.Key); is && !wantNewer(r, old) {
		r = old
	}
	m := slices.DeleteFunc(slices.Clone(l), func(s api.Reg) bool { return s.Key == r.Key })
	at := 0
	for at < len(m) && m[at].Key < r.Key {
		at++
	}
	return slices.Insert(m, at, r)
}

func wantMerge(a, b []api.Reg) []api.Reg {
	if !wantMay(a) || !wantMay(b) {
		return nil
	}
	m := slices.Clone(a)
	for _, r := range b {
		m = wantPut(m, r)
	}
	return m
}

func checkGet(t *testing.T, l []api.Reg, key string) {
	t.Helper()
	got, is := Get(l, key)
	if want, wantIs := wantGet(l, key); got != want || is != wantIs {
		t.Errorf("Get(%v, %q) = %v, %v, want %v, %v", l, key, got, is, want, wantIs)
	}
}

func checkPut(t *testing.T, l []api.Reg, r api.Reg) {
	t.Helper()
	if got, want := Put(l, r), wantPut(l, r); !slices.Equal(got, want) {
		t.Errorf("Put(%v, %v) = %v, want %v", l, r, got, want)
	}
}

func checkMerge(t *testing.T, a, b []api.Reg) {
	t.Helper()
	if got, want := Merge(a, b), wantMerge(a, b); !slices.Equal(got, want) {
		t.Errorf("Merge(%v, %v) = %v, want %v", a, b, got, want)
	}
}

// P7.1: registers that may be alone, and keys that rise, none twice.
func TestMay(t *testing.T) {
	for _, l := range good() {
		if !May(l) || !wantMay(l) {
			t.Errorf("%v may not be", l)
		}
	}
	for _, l := range bad() {
		if May(l) || wantMay(l) {
			t.Errorf("%v may be", l)
		}
	}
}

// P7.1: the edges by name.
func TestMayEdges(t *testing.T) {
	for _, x := range []struct {
		l    []api.Reg
		want bool
	}{
		{nil, true}, {[]api.Reg{}, true}, {[]api.Reg{{}}, false}, {row("a"), true},
		// Keys that rise, that fall, that are the same, of which one begins with the other.
		{row("a", "b"), true}, {row("b", "a"), false}, {row("a", "a"), false}, {row("a", "ab"), true}, {row("ab", "a"), false}, {row("ab", "b"), true}, {row("b", "ab"), false},
		{row("9", "a"), true}, {row("a", "9"), false}, {row("a", "b", "c"), true}, {row("a", "c", "b"), false}, {row("b", "a", "c"), false}, {row("a", "b", "b"), false}, {row("a", "a", "b"), false},
		// Keys that may not be, at each place.
		{row("abcdefgh"), true}, {row("abcdefghi"), false}, {row(""), false}, {row("A"), false},
		{row("", "b", "c"), false}, {row("A", "b", "c"), false}, {row("a", "b`", "c"), false}, {row("a", "b", "é"), false}, {row("a", "b", "cdefghijk"), false},
		// Elements.
		{regs(of("a", "abcdefgh", 1, 0, 1)), true}, {regs(of("a", "abcdefghi", 1, 0, 1)), false}, {regs(of("a", "", 1, 0, 1)), false}, {regs(of("a", "X", 1, 0, 1)), false},
		{regs(of("a", "z", 1, 0, 1), of("b", "a", 1, 0, 1)), true}, {regs(of("a", "x", 1, 0, 1), of("b", "x", 1, 0, 1)), true},
		// Gen.
		{regs(of("a", "x", 1, 0, 1)), true}, {regs(of("a", "x", 0, 0, 1)), false}, {regs(of("a", "x", -1, 0, 1)), false}, {regs(of("a", "x", math.MaxInt, 0, 1)), true}, {regs(of("a", "x", math.MinInt, 0, 1)), false},
		{regs(of("a", "x", 1<<20, 0, 1)), true}, {regs(of("a", "x", 1<<20+1, 0, 1)), true}, {regs(of("a", "x", 2, 0, 1), of("b", "x", 1, 0, 1)), true},
		// Node.
		{regs(of("a", "x", 1, -1, 1)), false}, {regs(of("a", "x", 1, 7, 1)), true}, {regs(of("a", "x", 1, 8, 1)), false}, {regs(of("a", "x", 1, math.MaxInt, 1)), false}, {regs(of("a", "x", 1, math.MinInt, 1)), false},
		{regs(of("a", "x", 1, 7, 1), of("b", "x", 1, 0, 1)), true}, {regs(of("a", "x", 1, 256, 1)), false}, {regs(of("a", "x", 1, 1<<32, 1)), false},
		// Seq.
		{regs(of("a", "x", 1, 0, 0)), false}, {regs(of("a", "x", 1, 0, -1)), false}, {regs(of("a", "x", 1, 0, math.MaxInt)), true}, {regs(of("a", "x", 1, 0, math.MinInt)), false},
		{regs(of("a", "x", 1, 0, 1<<20)), true}, {regs(of("a", "x", 1, 0, 1<<20+1)), true}, {regs(of("a", "x", 1, 0, 2), of("b", "x", 1, 0, 1)), true},
	} {
		if got := May(x.l); got != x.want {
			t.Errorf("May(%v) = %v, want %v", x.l, got, x.want)
		}
	}
	// Each text that may be no key, at each place among others; it is the text that tells, as the keys rise.
	for _, s := range wrong() {
		for _, l := range [][]api.Reg{row(s), row(s, s+"0"), row(s[:len(s)/2], s)} {
			if May(l) {
				t.Errorf("%v may be", l)
			}
		}
	}
}

// P7.1: many registers, of which one place after the other is not as it may be.
func TestMayMany(t *testing.T) {
	var many []api.Reg
	for x := range 26 * 26 {
		many = append(many, of(string([]byte{'a' + byte(x/26), 'a' + byte(x%26)}), "x", 700-x, x%8, 1+x%5))
	}
	if !May(many) {
		t.Error("many registers may not be")
	}
	for i := range len(many) - 1 {
		same, fall := slices.Clone(many), slices.Clone(many)
		same[i+1].Key = same[i].Key
		fall[i], fall[i+1] = fall[i+1], fall[i]
		if May(same) || May(fall) {
			t.Errorf("place %d: %v %v", i, May(same), May(fall))
		}
		for _, r := range broken(many[i].Key) {
			l := slices.Clone(many)
			l[i] = r
			if May(l) {
				t.Errorf("place %d: %v may be", i, r)
			}
		}
	}
}

// The chapter's example.
func TestExample(t *testing.T) {
	x, y := of("a", "x", 2, 0, 1), of("a", "y", 1, 0, 1)
	if !Newer(x, y) || Newer(y, x) {
		t.Error(Newer(x, y), Newer(y, x))
	}
	for _, l := range [][]api.Reg{Put(regs(x), y), Put(regs(y), x), Merge(regs(x), regs(y)), Merge(regs(y), regs(x))} {
		if !slices.Equal(l, regs(x)) {
			t.Error(l)
		}
	}
}

// P7.2: the first part that differs tells, Gen, Node, Seq, Elem, and nothing else.
func TestNewerEdges(t *testing.T) {
	for _, x := range []struct {
		a, b api.Reg
		want bool
	}{
		// In one part alone.
		{of("a", "x", 2, 1, 1), of("a", "x", 1, 1, 1), true}, {of("a", "x", 1, 2, 1), of("a", "x", 1, 1, 1), true},
		{of("a", "x", 1, 1, 2), of("a", "x", 1, 1, 1), true}, {of("a", "y", 1, 1, 1), of("a", "x", 1, 1, 1), true},
		{of("b", "x", 1, 1, 1), of("a", "x", 1, 1, 1), false}, {of("a", "x", 1, 1, 1), of("a", "x", 1, 1, 1), false}, {api.Reg{}, api.Reg{}, false},
		// A greater one beside what is smaller behind it.
		{of("a", "a", 2, 0, 1), of("b", "z", 1, 7, 9), true}, {of("a", "a", 1, 1, 1), of("b", "z", 1, 0, 9), true}, {of("a", "a", 1, 1, 2), of("b", "z", 1, 1, 1), true},
		{of("a", "b", 1, 1, 1), of("b", "a", 1, 1, 1), true}, {of("z", "a", 1, 1, 1), of("a", "b", 1, 1, 1), false},
		// Numbers below 0, and at the ends.
		{of("a", "x", -1, 0, 0), of("a", "x", -2, 0, 0), true}, {of("a", "x", 0, 0, 0), of("a", "x", -1, 0, 0), true}, {of("a", "x", 0, -1, 0), of("a", "x", 0, -2, 0), true},
		{of("a", "x", 0, 0, -1), of("a", "x", 0, 0, -2), true}, {of("a", "a", math.MaxInt, math.MinInt, math.MinInt), of("a", "z", math.MinInt, math.MaxInt, math.MaxInt), true},
		{of("a", "x", 0, math.MaxInt, 0), of("a", "x", 0, math.MinInt, 0), true}, {of("a", "x", 0, 0, math.MaxInt), of("a", "x", 0, 0, math.MinInt), true},
		{of("a", "x", math.MinInt, 0, 0), of("a", "x", math.MinInt, 0, 0), false}, {of("a", "x", 1, 8, 1), of("a", "x", 1, 7, 1), true},
		// Elements byte by byte: one that begins with the other, none, and others.
		{of("a", "xx", 1, 1, 1), of("a", "x", 1, 1, 1), true}, {of("a", "x", 1, 1, 1), of("a", "", 1, 1, 1), true}, {of("a", "", 1, 1, 1), of("a", "", 1, 1, 1), false},
		{of("a", "y", 1, 1, 1), of("a", "xx", 1, 1, 1), true}, {of("a", "a", 1, 1, 1), of("a", "9", 1, 1, 1), true}, {of("a", "a", 1, 1, 1), of("a", "Z", 1, 1, 1), true},
		{of("a", "10", 1, 1, 1), of("a", "9", 1, 1, 1), false}, {of("a", "\xff", 1, 1, 1), of("a", "日", 1, 1, 1), true}, {of("a", "x\x00", 1, 1, 1), of("a", "x", 1, 1, 1), true},
	} {
		if got := Newer(x.a, x.b); got != x.want {
			t.Errorf("Newer(%v, %v) = %v, want %v", x.a, x.b, got, x.want)
		}
		if x.want && Newer(x.b, x.a) {
			t.Errorf("%v and %v are each newer than the other", x.a, x.b)
		}
	}
}

// P7.2: all of some parts with one another.
func TestNewer(t *testing.T) {
	var l []api.Reg
	for _, gen := range []int{math.MinInt, -1, 0, 1, 2, math.MaxInt} {
		for _, node := range []int{math.MinInt, -1, 0, 7, math.MaxInt} {
			for _, seq := range []int{math.MinInt, 0, 1, math.MaxInt} {
				for _, elem := range []string{"", "x", "xx", "\x80"} {
					l = append(l, of([]string{"a", "b", "c"}[len(l)%3], elem, gen, node, seq))
				}
			}
		}
	}
	for _, a := range l {
		for _, b := range l {
			if got, want := Newer(a, b), wantNewer(a, b); got != want {
				t.Errorf("Newer(%v, %v) = %v, want %v", a, b, got, want)
			}
		}
	}
}

// P7.3: the first one of that key, also where registers may not be.
func TestGet(t *testing.T) {
	x, y, z := of("a", "x", 1, 0, 1), of("a", "y", 2, 0, 2), of("b", "z", 1, 0, 1)
	odd := of("", "", -1, math.MinInt, 0)
	for _, c := range []struct {
		l    []api.Reg
		key  string
		want api.Reg
		is   bool
	}{
		{nil, "a", api.Reg{}, false}, {nil, "", api.Reg{}, false}, {[]api.Reg{}, "a", api.Reg{}, false},
		// Once, and not at all.
		{regs(x), "a", x, true}, {regs(x), "b", api.Reg{}, false}, {regs(x, z), "a", x, true}, {regs(x, z), "b", z, true}, {regs(x, z), "c", api.Reg{}, false}, {row("a", "c"), "b", api.Reg{}, false},
		{row("ab"), "a", api.Reg{}, false}, {row("a"), "ab", api.Reg{}, false}, {row("a"), "x", api.Reg{}, false},
		// Twice, and others that may not be: the first one, whichever is newer.
		{regs(x, y), "a", x, true}, {regs(y, x), "a", y, true}, {regs(x, z, y), "a", x, true}, {regs(z, y, x), "a", y, true}, {regs(z, x), "b", z, true}, {regs(z, x), "a", x, true}, {row("c", "b", "a"), "a", row("a")[0], true},
		{regs(of("a", "", 0, -1, 0)), "a", of("a", "", 0, -1, 0), true}, {regs(of("a", "", 0, -1, 0), x), "a", of("a", "", 0, -1, 0), true},
		// Texts that may not be keys.
		{regs(x), "", api.Reg{}, false}, {regs(x), "A", api.Reg{}, false}, {regs(odd), "", odd, true}, {[]api.Reg{{}}, "", api.Reg{}, true}, {row("A"), "A", row("A")[0], true}, {row("A"), "a", api.Reg{}, false},
		{row("a\x00"), "a", api.Reg{}, false}, {row("\xff"), "\xff", row("\xff")[0], true}, {row("\xff"), "\xfe", api.Reg{}, false}, {row("é"), "é", row("é")[0], true}, {row("abcdefghi"), "abcdefghi", row("abcdefghi")[0], true}, {row("abcdefghi"), "abcdefgh", api.Reg{}, false},
	} {
		if got, is := Get(c.l, c.key); got != c.want || is != c.is {
			t.Errorf("Get(%v, %q) = %v, %v, want %v, %v", c.l, c.key, got, is, c.want, c.is)
		}
	}
	for _, l := range append(good(), bad()...) {
		keys := append(wrong(), "a", "aa", "ab", "b", "c", "x", "z", "0", "zz", "nothere")
		for _, r := range l {
			keys = append(keys, r.Key)
		}
		for _, key := range keys {
			checkGet(t, l, key)
		}
	}
}

// P7.3: that key has the newer one, all others what they have; nothing, if one may not be.
func TestPut(t *testing.T) {
	var all []api.Reg
	for _, key := range append(wrong(), "0", "a", "a0", "aa", "ab", "b", "c", "k7", "z", "zz", "abcdefgh") {
		all = append(all, of(key, "x", 1, 0, 1), of(key, "x", 2, 0, 1), of(key, "x", 1, 1, 1), of(key, "x", 1, 0, 2), of(key, "y", 1, 0, 1), of(key, "0", 9, 7, 9), of(key, "z", math.MaxInt, 7, math.MaxInt))
	}
	all = append(append(all, broken("a")...), broken("b")...)
	for _, l := range append(good(), bad()...) {
		for _, r := range append(all, l...) {
			checkPut(t, l, r)
		}
	}
}

// P7.3: the edges of Put by name.
func TestPutEdges(t *testing.T) {
	b, d, young := of("b", "m", 2, 3, 4), of("d", "m", 1, 0, 1), of("b", "m", 3, 3, 4)
	l := regs(b, d)
	for _, x := range []struct {
		l    []api.Reg
		r    api.Reg
		want []api.Reg
	}{
		// A key that is not there: into nothing, ahead, between, behind.
		{nil, b, regs(b)}, {[]api.Reg{}, b, regs(b)}, {l, row("a")[0], regs(row("a")[0], b, d)}, {l, row("c")[0], regs(b, row("c")[0], d)}, {l, row("e")[0], regs(b, d, row("e")[0])},
		{row("ab"), row("a")[0], row("a", "ab")}, {row("a"), row("ab")[0], row("a", "ab")}, {row("a"), row("9")[0], row("9", "a")}, {row("b"), row("aaaaaaaa")[0], row("aaaaaaaa", "b")},
		// One that is there: newer in one part alone.
		{l, young, regs(young, d)}, {l, of("b", "m", 2, 4, 4), regs(of("b", "m", 2, 4, 4), d)}, {l, of("b", "m", 2, 3, 5), regs(of("b", "m", 2, 3, 5), d)}, {l, of("b", "mm", 2, 3, 4), regs(of("b", "mm", 2, 3, 4), d)},
		{l, of("d", "a", 2, 0, 1), regs(b, of("d", "a", 2, 0, 1))}, {l, of("b", "a", 3, 0, 1), regs(of("b", "a", 3, 0, 1), d)},
		// Older in one part alone, and the same.
		{l, of("b", "m", 1, 3, 4), l}, {l, of("b", "m", 2, 2, 4), l}, {l, of("b", "m", 2, 3, 3), l}, {l, of("b", "l", 2, 3, 4), l}, {l, of("b", "z", 1, 7, 9), l}, {l, b, l}, {l, d, l},
		// Registers that may not be.
		{row("b", "a"), row("c")[0], nil}, {row("a", "a"), row("a")[0], nil}, {row("A"), row("a")[0], nil}, {regs(of("a", "x", 0, 0, 1)), of("a", "x", 1, 0, 1), nil}, {regs(b, of("d", "", 1, 0, 1)), young, nil},
		// One that may not be, for each cause.
		{l, of("", "x", 9, 0, 1), nil}, {l, of("B", "x", 9, 0, 1), nil}, {l, of("abcdefghi", "x", 9, 0, 1), nil}, {l, of("b", "", 9, 0, 1), nil}, {l, of("b", "X", 9, 0, 1), nil}, {l, of("b", "abcdefghi", 9, 0, 1), nil},
		{l, of("b", "x", 0, 0, 1), nil}, {l, of("b", "x", -1, 0, 1), nil}, {l, of("b", "x", 9, -1, 1), nil}, {l, of("b", "x", 9, 8, 1), nil}, {l, of("b", "x", 9, 0, 0), nil}, {l, of("b", "x", 9, 0, -1), nil},
		{l, api.Reg{}, nil}, {nil, api.Reg{}, nil}, {nil, of("a", "x", 0, 0, 1), nil}, {row("A"), row("A")[0], nil},
	} {
		if got := Put(x.l, x.r); !slices.Equal(got, x.want) {
			t.Errorf("Put(%v, %v) = %v, want %v", x.l, x.r, got, x.want)
		}
		checkPut(t, x.l, x.r)
	}
	for _, r := range append(broken("b"), broken("c")...) {
		if got := Put(l, r); len(got) != 0 {
			t.Errorf("Put(%v, %v) = %v, want nothing", l, r, got)
		}
	}
}

// P7.3: Put of all of b into a.
func TestMerge(t *testing.T) {
	for _, a := range good() {
		for _, b := range good() {
			checkMerge(t, a, b)
			m := slices.Clone(a)
			for _, r := range b {
				m = Put(m, r)
			}
			if got := Merge(a, b); !slices.Equal(got, m) {
				t.Errorf("Merge(%v, %v) = %v, one by one %v", a, b, got, m)
			}
		}
	}
}

// P7.3: nothing, if one of the two may not be, whichever it is.
func TestMergeBad(t *testing.T) {
	for _, x := range bad() {
		for _, two := range [][2][]api.Reg{{x, nil}, {nil, x}, {x, row("a", "b")}, {row("a", "b"), x}, {x, row("q")}, {row("q"), x}, {x, x}} {
			if got := Merge(two[0], two[1]); len(got) != 0 {
				t.Errorf("Merge(%v, %v) = %v, want nothing", two[0], two[1], got)
			}
		}
	}
}

// P7.3: the edges of Merge by name.
func TestMergeEdges(t *testing.T) {
	old, young := of("b", "z", 1, 7, 9), of("b", "a", 2, 0, 1)
	a, c, d := row("a")[0], row("c")[0], row("d")[0]
	for _, x := range []struct{ a, b, want []api.Reg }{
		{nil, nil, nil}, {[]api.Reg{}, nil, nil}, {nil, []api.Reg{}, nil},
		// Nothing on one side.
		{row("a", "c"), nil, row("a", "c")}, {nil, row("a", "c"), row("a", "c")},
		// Keys of one side alone, in order, whichever has them.
		{row("a"), row("b"), row("a", "b")}, {row("b"), row("a"), row("a", "b")}, {row("a", "c"), row("b", "d"), row("a", "b", "c", "d")}, {row("b", "d"), row("a", "c"), row("a", "b", "c", "d")},
		{row("a", "d"), row("b", "c"), row("a", "b", "c", "d")}, {row("ab"), row("a", "abc"), row("a", "ab", "abc")}, {row("a", "b"), row("c", "d"), row("a", "b", "c", "d")},
		// Keys of both: newer on the one side, on the other one, and the same.
		{regs(young), regs(old), regs(young)}, {regs(old), regs(young), regs(young)}, {regs(young), regs(young), regs(young)}, {regs(old), regs(old), regs(old)},
		{regs(a, young, d), regs(old, c), regs(a, young, c, d)}, {regs(a, old, d), regs(young, c), regs(a, young, c, d)}, {regs(a, young, c), regs(a, young, c), regs(a, young, c)},
		{regs(of("a", "x", 2, 0, 1), old), regs(a, young), regs(of("a", "x", 2, 0, 1), young)}, {regs(a, old), regs(of("a", "x", 2, 0, 1)), regs(of("a", "x", 2, 0, 1), old)},
		// Newer in one part alone.
		{regs(of("b", "m", 1, 1, 1)), regs(of("b", "m", 1, 2, 1)), regs(of("b", "m", 1, 2, 1))}, {regs(of("b", "m", 1, 1, 2)), regs(of("b", "m", 1, 1, 1)), regs(of("b", "m", 1, 1, 2))}, {regs(of("b", "m", 1, 1, 1)), regs(of("b", "mm", 1, 1, 1)), regs(of("b", "mm", 1, 1, 1))},
	} {
		if got := Merge(x.a, x.b); !slices.Equal(got, x.want) {
			t.Errorf("Merge(%v, %v) = %v, want %v", x.a, x.b, got, x.want)
		}
		checkMerge(t, x.a, x.b)
	}
}

// P7.4, P2: what is merged does not hang on the order, and on how often.
func TestOrder(t *testing.T) {
	all := good()
	for i, a := range all {
		if got := Merge(a, a); !slices.Equal(got, a) {
			t.Errorf("%v merged with itself: %v", a, got)
		}
		for j, b := range all {
			ab := Merge(a, b)
			c := all[(i*3+j*5+1)%len(all)]
			if !May(ab) {
				t.Errorf("%v and %v are merged as %v, which may not be", a, b, ab)
			}
			for _, got := range [][]api.Reg{Merge(b, a), Merge(ab, a), Merge(ab, b), Merge(a, ab), Merge(b, ab), Merge(ab, ab)} {
				if !slices.Equal(got, ab) {
					t.Errorf("%v and %v are merged as %v, and as %v", a, b, ab, got)
				}
			}
			want := Merge(ab, c)
			for _, got := range [][]api.Reg{Merge(a, Merge(b, c)), Merge(Merge(c, a), b), Merge(c, Merge(b, a)), Merge(Merge(b, c), ab), Merge(Merge(a, c), Merge(b, c))} {
				if !slices.Equal(got, want) {
					t.Errorf("%v, %v and %v are merged as %v, and as %v", a, b, c, want, got)
				}
			}
		}
	}
}

// P7.4: registers of one key put in in each order, and again.
func TestOrderPut(t *testing.T) {
	l := regs(of("a", "z", 1, 7, 9), of("a", "a", 2, 0, 1), of("a", "b", 2, 0, 1), of("a", "a", 2, 0, 2), of("a", "a", 2, 1, 1))
	want := regs(of("a", "a", 2, 1, 1))
	var all func(m []api.Reg, left []api.Reg)
	all = func(m []api.Reg, left []api.Reg) {
		if len(left) == 0 {
			for _, r := range l {
				m = Put(m, r)
			}
			if !slices.Equal(m, want) {
				t.Errorf("%v, want %v", m, want)
			}
		}
		for i, r := range left {
			all(Put(m, r), slices.Delete(slices.Clone(left), i, i+1))
		}
	}
	all(nil, l)
}

// R3: what is handed in stays, also behind its end, and what is answered is new.
func TestOwn(t *testing.T) {
	calls := []struct {
		name string
		f    func(a, b []api.Reg) []api.Reg
	}{
		{"Merge", Merge},
		{"Merge with nothing", func(a, b []api.Reg) []api.Reg { return Merge(a, nil) }},
		{"Merge of nothing", func(a, b []api.Reg) []api.Reg { return Merge(nil, a) }},
		{"Merge with itself", func(a, b []api.Reg) []api.Reg { return Merge(a, a) }},
		{"Put of a new key", func(a, b []api.Reg) []api.Reg { return Put(a, of("a5", "x", 1, 0, 1)) }},
		{"Put behind all", func(a, b []api.Reg) []api.Reg { return Put(a, of("zzzzzzzz", "x", 1, 0, 1)) }},
		{"Put of a newer one", func(a, b []api.Reg) []api.Reg { return Put(a, of("a", "x", 99, 0, 1)) }},
		{"Put of an older one", func(a, b []api.Reg) []api.Reg { return Put(Put(a, of("a", "x", 99, 0, 1)), of("a", "0", 1, 0, 1)) }},
		{"Put of the same one", func(a, b []api.Reg) []api.Reg {
			if len(a) == 0 {
				return nil
			}
			return Put(a, a[len(a)-1])
		}},
		{"Put of none", func(a, b []api.Reg) []api.Reg { return Put(a, api.Reg{}) }},
		{"May, Get and Newer", func(a, b []api.Reg) []api.Reg { May(a); Get(a, "a"); Newer(api.Reg{}, api.Reg{}); return nil }},
	}
	all := append(good(), bad()...)
	for _, c := range calls {
		for i, l := range all {
			var rooms, keeps [2][]api.Reg
			for k, m := range [][]api.Reg{l, all[(i*5+2)%len(all)]} {
				rooms[k] = append(slices.Clone(m), of("y", "y", 77, 7, 77), api.Reg{})
				keeps[k] = slices.Clone(rooms[k])
			}
			call := func() []api.Reg {
				return c.f(rooms[0][:len(rooms[0])-2], rooms[1][:len(rooms[1])-2])
			}
			same := func(what string) {
				for k := range rooms {
					if !slices.Equal(rooms[k], keeps[k]) {
						t.Fatalf("%s: %s", c.name, what)
					}
				}
			}
			got := call()
			same("what is handed in is changed")
			want := slices.Clone(got)
			for k := range rooms {
				for j := range rooms[k] {
					rooms[k][j] = of("q", "q", 99, 1, 99)
				}
			}
			if !slices.Equal(got, want) {
				t.Fatalf("%s: the answer changes with what was handed in", c.name)
			}
			for k := range rooms {
				copy(rooms[k], keeps[k])
			}
			full := got[:cap(got)]
			for j := range full {
				full[j] = of("r", "r", 98, 2, 98)
			}
			same("what was handed in changes with the answer")
			if again := call(); !slices.Equal(again, want) {
				t.Fatalf("%s: another answer the next time", c.name)
			}
		}
	}
}

// P1, R1, R5: every call ends, none panics, whatever it is given, and each answers as the chapter says.
func TestAny(t *testing.T) {
	texts := append(wrong(), strings.Repeat("a", 1<<16), "a", "a", "b", "c", "aa", "0", "x", "y")
	next := chance(9)
	text := func() string { return texts[next(len(texts))] }
	number := func() int {
		if next(2) == 0 {
			return 1
		}
		return numbers()[next(len(numbers()))]
	}
	odd := func() api.Reg { return of(text(), text(), number(), number(), number()) }
	some := func() []api.Reg {
		l := make([]api.Reg, next(5))
		for i := range l {
			l[i] = odd()
			if next(3) > 0 {
				l[i] = of(string('a'+rune(next(4))), "x", 1+next(3), next(8), 1+next(3))
			}
		}
		if next(2) == 0 {
			slices.SortFunc(l, func(a, b api.Reg) int { return strings.Compare(a.Key, b.Key) })
		}
		return l
	}
	for range 40000 {
		a, b, r, s := some(), some(), odd(), odd()
		if got, want := May(a), wantMay(a); got != want {
			t.Errorf("May(%v) = %v, want %v", a, got, want)
		}
		if got, want := Newer(r, s), wantNewer(r, s); got != want {
			t.Errorf("Newer(%v, %v) = %v, want %v", r, s, got, want)
		}
		checkGet(t, a, text())
		checkPut(t, a, r)
		checkPut(t, a, of("b", "x", 1+next(3), next(8), 1))
		checkMerge(t, a, b)
	}
}

// R1: many registers, put in one by one from the last one on, and merged at once.
func TestMany(t *testing.T) {
	var up, old, got []api.Reg
	for x := range 1000 {
		r := of(string([]byte{'0' + byte(x/100), '0' + byte(x/10%10), '0' + byte(x%10)}), "x", x+2, x%8, x+1)
		up = append(up, r)
		r.Gen--
		old = append(old, r)
	}
	for i := range up {
		got = Put(got, up[len(up)-1-i])
	}
	for i := range old {
		got = Put(got, old[i])
	}
	if !slices.Equal(got, up) || !slices.Equal(Merge(up, old), up) || !slices.Equal(Merge(old, up), up) {
		t.Error("many registers are not as they were put in")
	}
}
