package state

import (
	"bytes"
	"cmp"
	"encoding/binary"
	"math"
	"regexp"
	"slices"
	"strings"
	"testing"

	"anabranch/api"
)

var one = regexp.MustCompile(`\A[a-z0-9]{1,8}\z`)

// countOf, regOf and pairOf are what states have.
func countOf(key string, n int) api.Ctr { return api.Ctr{Key: key, N: n} }

func regOf(key, elem string, gen, node, seq int) api.Reg {
	return api.Reg{Key: key, Elem: elem, Gen: gen, Ev: ev(node, seq)}
}

func pairOf(key, elem string, node, seq int) api.Pair {
	return api.Pair{Key: key, Elem: elem, Ev: ev(node, seq)}
}

func ev(node, seq int) api.Event { return api.Event{Node: node, Seq: seq} }

// of is a state of counts, registers and pairs.
func of(l ...any) api.State {
	var s api.State
	for _, x := range l {
		switch x := x.(type) {
		case api.Ctr:
			s.C = append(s.C, x)
		case api.Reg:
			s.R = append(s.R, x)
		case api.Pair:
			s.P = append(s.P, x)
		default:
			panic("nothing that a state has")
		}
	}
	return s
}

// inc, set, add and del are operations.
func inc(key string, n int) api.Op { return api.Op{Kind: 0, Key: key, N: n} }
func set(key, elem string) api.Op  { return api.Op{Kind: 1, Key: key, Elem: elem} }
func add(key, elem string) api.Op  { return api.Op{Kind: 2, Key: key, Elem: elem} }
func del(key, elem string) api.Op  { return api.Op{Kind: 3, Key: key, Elem: elem} }

// equal tells whether states are the same, without Same.
func equal(a, b api.State) bool {
	return slices.Equal(a.C, b.C) && slices.Equal(a.R, b.R) && slices.Equal(a.P, b.P)
}

func empty(s api.State) bool { return len(s.C)+len(s.R)+len(s.P) == 0 }

func clone(s api.State) api.State {
	return api.State{C: slices.Clone(s.C), R: slices.Clone(s.R), P: slices.Clone(s.P)}
}

func words(l ...string) []string { return l }

// wrong are texts that may be neither keys nor elements.
func wrong() []string {
	return words("", "A", "aB", "abcdefghi", strings.Repeat("z", 300), "`", "{", "/", ":", " ", "a ", "a\x00", "\x00", "\x80", "a\xff", "é", "日本", "a\n")
}

// numbers are those at the edges, and at the ends.
func numbers() []int {
	return []int{0, 1, -1, 2, -2, 6, 7, 8, 9, 63, 64, 127, 128, -128, 255, 256, 1<<20 - 1, 1 << 20, 1<<20 + 1, -1 << 20, -1<<20 - 1, 1 << 31, 1 << 32, -1 << 32, 1<<32 + 1, 1 << 62, math.MaxInt, math.MaxInt - 1, math.MinInt, math.MinInt + 1}
}

// chance answers numbers that seem random, the same ones each time.
func chance(seed uint32) func(int) int {
	return func(n int) int {
		seed = seed*1664525 + 1013904223
		return int(seed>>8) % n
	}
}

// good are states that may be: without anything, with one list alone, with two, with all, that have some in common, and that differ in any part.
func good() []api.State {
	l := []api.State{
		{}, {C: []api.Ctr{}, R: []api.Reg{}, P: []api.Pair{}}, {R: []api.Reg{}},
		of(countOf("a", 1)), of(countOf("a", -1)), of(countOf("a", 3)), of(countOf("b", 1)), of(countOf("a", 1), countOf("b", 5)), of(countOf("a", math.MinInt), countOf("b", math.MaxInt)),
		of(regOf("a", "x", 1, 0, 1)), of(regOf("a", "y", 1, 0, 1)), of(regOf("a", "x", 2, 0, 1)), of(regOf("a", "x", 1, 1, 1)), of(regOf("a", "x", 1, 0, 2)), of(regOf("b", "x", 1, 0, 1)), of(regOf("a", "x", math.MaxInt, 7, math.MaxInt)),
		of(pairOf("a", "x", 0, 1)), of(pairOf("a", "y", 0, 1)), of(pairOf("a", "x", 1, 1)), of(pairOf("a", "x", 0, 2)), of(pairOf("b", "x", 0, 1)), of(pairOf("a", "x", 0, 1), pairOf("a", "x", 0, 2)), of(pairOf("abcdefgh", "01234567", 7, math.MaxInt)),
		of(countOf("a", 1), regOf("a", "x", 1, 0, 1)), of(countOf("a", 1), pairOf("a", "x", 0, 1)), of(regOf("a", "x", 1, 0, 1), pairOf("a", "x", 0, 1)),
		of(countOf("a", 1), regOf("a", "x", 1, 0, 1), pairOf("a", "x", 0, 1)),
		of(countOf("a", 1), countOf("b", 2), countOf("c", -3), regOf("a", "x", 1, 0, 1), regOf("c", "z", 300, 7, 1<<20), pairOf("a", "x", 0, 1), pairOf("a", "x", 7, 200), pairOf("b", "y", 0, 1)),
	}
	next := chance(5)
	for range 24 {
		l = append(l, some(next))
	}
	return l
}

// some is a state of a few keys and small numbers.
func some(next func(int) int) api.State {
	var s api.State
	for _, key := range words("a", "aa", "b") {
		if next(2) == 0 {
			s.C = append(s.C, countOf(key, next(4)*2-3))
		}
		if next(2) == 0 {
			s.R = append(s.R, regOf(key, words("x", "xx")[next(2)], next(2)+1, next(2), next(2)+1))
		}
		for _, elem := range words("x", "xx") {
			for e := range 4 {
				if next(4) == 0 {
					s.P = append(s.P, pairOf(key, elem, e/2, e%2+1))
				}
			}
		}
	}
	return s
}

// badC, badR and badP are states of one list, which may not be for one cause alone.
func badC() []api.State {
	l := []api.State{of(api.Ctr{}), of(countOf("a", 0)), of(countOf("a", 0), countOf("b", 1)), of(countOf("a", 1), countOf("b", 0)), of(countOf("b", 1), countOf("a", 1)), of(countOf("a", 1), countOf("a", 1)), of(countOf("ab", 1), countOf("a", 1))}
	for _, s := range wrong() {
		l = append(l, of(countOf(s, 1)), of(countOf("a", 1), countOf(s, 1)))
	}
	return l
}

func badR() []api.State {
	l := []api.State{of(api.Reg{}), of(regOf("b", "x", 1, 0, 1), regOf("a", "x", 1, 0, 1)), of(regOf("a", "x", 1, 0, 1), regOf("a", "y", 2, 0, 2)), of(regOf("ab", "x", 1, 0, 1), regOf("a", "x", 1, 0, 1))}
	for _, s := range wrong() {
		l = append(l, of(regOf(s, "x", 1, 0, 1)), of(regOf("a", s, 1, 0, 1)), of(regOf("a", "x", 1, 0, 1), regOf("b", s, 1, 0, 1)))
	}
	for _, n := range numbers() {
		if n < 1 {
			l = append(l, of(regOf("a", "x", n, 0, 1)), of(regOf("a", "x", 1, 0, n)))
		}
		if n < 0 || n > 7 {
			l = append(l, of(regOf("a", "x", 1, n, 1)))
		}
	}
	return l
}

func badP() []api.State {
	l := []api.State{of(api.Pair{}), of(pairOf("b", "x", 0, 1), pairOf("a", "x", 0, 1)), of(pairOf("a", "y", 0, 1), pairOf("a", "x", 0, 1)), of(pairOf("a", "x", 1, 1), pairOf("a", "x", 0, 2)), of(pairOf("a", "x", 0, 2), pairOf("a", "x", 0, 1)), of(pairOf("a", "x", 0, 1), pairOf("a", "x", 0, 1))}
	for _, s := range wrong() {
		l = append(l, of(pairOf(s, "x", 0, 1)), of(pairOf("a", s, 0, 1)), of(pairOf("a", "x", 0, 1), pairOf("b", s, 0, 1)))
	}
	for _, n := range numbers() {
		if n < 1 {
			l = append(l, of(pairOf("a", "x", 0, n)))
		}
		if n < 0 || n > 7 {
			l = append(l, of(pairOf("a", "x", n, 1)))
		}
	}
	return l
}

// bad are states of which one list may not be, alone and beside others that may be, and of which several may not be.
func bad() []api.State {
	c, r, p := badC(), badR(), badP()
	ok := of(countOf("k", 1), regOf("k", "x", 1, 0, 1), pairOf("k", "x", 0, 1))
	var l []api.State
	for _, s := range c {
		l = append(l, s, api.State{C: s.C, R: ok.R, P: ok.P})
	}
	for _, s := range r {
		l = append(l, s, api.State{C: ok.C, R: s.R, P: ok.P})
	}
	for _, s := range p {
		l = append(l, s, api.State{C: ok.C, R: ok.R, P: s.P})
	}
	return append(l, api.State{C: c[0].C, R: r[0].R, P: p[0].P}, api.State{C: c[1].C, R: r[1].R}, api.State{C: c[1].C, P: p[1].P}, api.State{R: r[1].R, P: p[1].P})
}

// keys are those of a list, rise whether texts do.
func keys[T any](l []T, key func(T) string) []string {
	var k []string
	for _, x := range l {
		k = append(k, key(x))
	}
	return k
}

func rise(l []string) bool {
	for i := range l {
		for j := range i {
			if bytes.Compare([]byte(l[j]), []byte(l[i])) >= 0 {
				return false
			}
		}
	}
	return true
}

func order(a, b api.Pair) int {
	return cmp.Or(slices.Compare(words(a.Key, a.Elem), words(b.Key, b.Elem)), slices.Compare([]int{a.Ev.Node, a.Ev.Seq}, []int{b.Ev.Node, b.Ev.Seq}))
}

// wantMay asks each part of each list, as chapters 6 to 8 do.
func wantMay(s api.State) bool {
	for _, c := range s.C {
		if !one.MatchString(c.Key) || c.N == 0 {
			return false
		}
	}
	for _, r := range s.R {
		if !one.MatchString(r.Key) || !one.MatchString(r.Elem) || r.Gen < 1 || r.Ev.Node < 0 || r.Ev.Node > 7 || r.Ev.Seq < 1 {
			return false
		}
	}
	for i, p := range s.P {
		if !one.MatchString(p.Key) || !one.MatchString(p.Elem) || p.Ev.Node < 0 || p.Ev.Node > 7 || p.Ev.Seq < 1 {
			return false
		}
		for _, q := range s.P[i+1:] {
			if order(p, q) >= 0 {
				return false
			}
		}
	}
	return rise(keys(s.C, func(c api.Ctr) string { return c.Key })) && rise(keys(s.R, func(r api.Reg) string { return r.Key }))
}

func wantOp(o api.Op) bool {
	if !one.MatchString(o.Key) {
		return false
	}
	if o.Kind == 0 {
		return o.N != 0 && o.N >= -1048576 && o.N <= 1048576 && o.Elem == ""
	}
	return o.Kind >= 1 && o.Kind <= 3 && o.N == 0 && one.MatchString(o.Elem)
}

func wantEvent(e api.Event) bool {
	return e.Node >= 0 && e.Node <= 7 && e.Seq >= 1 && e.Seq <= 1048576
}

// model is a state as maps.
type model struct {
	c map[string]int
	r map[string]api.Reg
	p map[api.Pair]bool
}

func from(s api.State) model {
	m := model{map[string]int{}, map[string]api.Reg{}, map[api.Pair]bool{}}
	for _, c := range s.C {
		m.c[c.Key] = c.N
	}
	for _, r := range s.R {
		m.set(r)
	}
	for _, p := range s.P {
		m.p[p] = true
	}
	return m
}

// set leaves of two registers of a key the one that is newer.
func (m model) set(r api.Reg) {
	old, is := m.r[r.Key]
	n := slices.Compare([]int{r.Gen, r.Ev.Node, r.Ev.Seq}, []int{old.Gen, old.Ev.Node, old.Ev.Seq})
	if !is || cmp.Or(n, strings.Compare(r.Elem, old.Elem)) > 0 {
		m.r[r.Key] = r
	}
}

func (m model) state() api.State {
	var s api.State
	for key, n := range m.c {
		if n != 0 {
			s.C = append(s.C, countOf(key, n))
		}
	}
	for _, r := range m.r {
		s.R = append(s.R, r)
	}
	for p := range m.p {
		s.P = append(s.P, p)
	}
	slices.SortFunc(s.C, func(a, b api.Ctr) int { return strings.Compare(a.Key, b.Key) })
	slices.SortFunc(s.R, func(a, b api.Reg) int { return strings.Compare(a.Key, b.Key) })
	slices.SortFunc(s.P, order)
	return s
}

func wantDo(s api.State, o api.Op, e api.Event, gen int) (api.State, api.Errno) {
	if !wantMay(s) || !wantOp(o) || !wantEvent(e) || gen <= 0 {
		return api.State{}, 1
	}
	m := from(s)
	switch o.Kind {
	case 0:
		m.c[o.Key] += o.N
	case 1:
		m.set(regOf(o.Key, o.Elem, gen, e.Node, e.Seq))
	case 2:
		m.p[pairOf(o.Key, o.Elem, e.Node, e.Seq)] = true
	case 3:
		for p := range m.p {
			if p.Key == o.Key && p.Elem == o.Elem {
				delete(m.p, p)
			}
		}
	}
	return m.state(), 0
}

func wantMerge(base, a, b api.State) (api.State, api.Errno) {
	if !wantMay(base) || !wantMay(a) || !wantMay(b) {
		return api.State{}, 1
	}
	x, y, z, m := from(base), from(a), from(b), from(api.State{})
	for _, s := range []api.State{base, a, b} {
		for _, c := range s.C {
			m.c[c.Key] = y.c[c.Key] + z.c[c.Key] - x.c[c.Key]
		}
		for _, p := range s.P {
			inA, inB := y.p[p], z.p[p]
			if inA && inB || inA && !x.p[p] || inB && !x.p[p] {
				m.p[p] = true
			}
		}
	}
	for _, r := range slices.Concat(a.R, b.R) {
		m.set(r)
	}
	return m.state(), 0
}

// wantPut writes numbers as Go's own varints, which have the same digits.
func wantPut(s api.State) []byte {
	var b []byte
	num := func(l ...int) {
		for _, n := range l {
			b = binary.AppendUvarint(b, uint64(n))
		}
	}
	text := func(l ...string) {
		for _, s := range l {
			num(len(s))
			b = append(b, s...)
		}
	}
	num(len(s.C))
	for _, c := range s.C {
		text(c.Key)
		// Signed ones are folded there as enc folds them.
		b = binary.AppendVarint(b, int64(c.N))
	}
	num(len(s.R))
	for _, r := range s.R {
		text(r.Key, r.Elem)
		num(r.Gen, r.Ev.Node, r.Ev.Seq)
	}
	num(len(s.P))
	for _, p := range s.P {
		text(p.Key, p.Elem)
		num(p.Ev.Node, p.Ev.Seq)
	}
	return b
}

// reader takes from bytes what wantPut has put there.
type reader struct{ b []byte }

func (r *reader) num() int {
	n, size := binary.Uvarint(r.b)
	r.b = r.b[size:]
	return int(n)
}

func (r *reader) fold() int {
	n, size := binary.Varint(r.b)
	r.b = r.b[size:]
	return int(n)
}

func (r *reader) text() string {
	n := r.num()
	s := string(r.b[:n])
	r.b = r.b[n:]
	return s
}

func read(b []byte) (api.State, []byte) {
	var s api.State
	r := &reader{b}
	for range r.num() {
		s.C = append(s.C, countOf(r.text(), r.fold()))
	}
	for range r.num() {
		s.R = append(s.R, regOf(r.text(), r.text(), r.num(), r.num(), r.num()))
	}
	for range r.num() {
		s.P = append(s.P, pairOf(r.text(), r.text(), r.num(), r.num()))
	}
	return s, r.b
}

func checkDo(t *testing.T, s api.State, o api.Op, e api.Event, gen int) {
	t.Helper()
	got, no := Do(s, o, e, gen)
	if want, wantNo := wantDo(s, o, e, gen); !equal(got, want) || no != wantNo {
		t.Errorf("Do(%v, %v, %v, %d) = %v, %d, want %v, %d", s, o, e, gen, got, no, want, wantNo)
	}
}

func checkMerge(t *testing.T, base, a, b api.State) {
	t.Helper()
	got, no := Merge(base, a, b)
	if want, wantNo := wantMerge(base, a, b); !equal(got, want) || no != wantNo {
		t.Errorf("Merge(%v, %v, %v) = %v, %d, want %v, %d", base, a, b, got, no, want, wantNo)
	}
}

func checkPut(t *testing.T, s api.State) {
	t.Helper()
	if got, want := Put(s), wantPut(s); !bytes.Equal(got, want) {
		t.Errorf("Put(%v) = %v, want %v", s, got, want)
	}
}

// P9.1: a state may be, if all its lists may be.
func TestMay(t *testing.T) {
	for _, s := range good() {
		if !May(s) || !wantMay(s) {
			t.Errorf("%v may not be", s)
		}
	}
	for _, s := range bad() {
		if May(s) || wantMay(s) {
			t.Errorf("%v may be", s)
		}
	}
}

// P9.1: the edges by name; each of the three lists that may not be, in its turn, beside the others.
func TestMayEdges(t *testing.T) {
	c, r, p := countOf("a", 1), regOf("a", "x", 1, 0, 1), pairOf("a", "x", 0, 1)
	for _, x := range []struct {
		s    api.State
		want bool
	}{
		{api.State{}, true}, {api.State{C: []api.Ctr{}, R: []api.Reg{}, P: []api.Pair{}}, true}, {of(c), true}, {of(r), true}, {of(p), true}, {of(c, r), true}, {of(c, p), true}, {of(r, p), true}, {of(c, r, p), true},
		{of(countOf("a", 0)), false}, {of(countOf("a", 0), r, p), false}, {of(countOf("", 1), r, p), false}, {of(countOf("b", 1), c, r, p), false}, {of(c, c, r, p), false},
		{of(regOf("a", "x", 0, 0, 1)), false}, {of(c, regOf("a", "x", 0, 0, 1), p), false}, {of(c, regOf("a", "", 1, 0, 1), p), false}, {of(c, regOf("A", "x", 1, 0, 1), p), false}, {of(c, regOf("a", "x", 1, 8, 1), p), false}, {of(c, regOf("a", "x", 1, 0, 0), p), false}, {of(c, r, r, p), false},
		{of(pairOf("a", "x", 0, 0)), false}, {of(c, r, pairOf("a", "x", 0, 0)), false}, {of(c, r, pairOf("a", "x", -1, 1)), false}, {of(c, r, pairOf("a", "x", 8, 1)), false}, {of(c, r, pairOf("", "x", 0, 1)), false}, {of(c, r, pairOf("a", "é", 0, 1)), false}, {of(c, r, p, p), false},
		{of(api.Ctr{}, api.Reg{}, api.Pair{}), false}, {of(api.Ctr{}, api.Reg{}, p), false}, {of(api.Ctr{}, r, api.Pair{}), false}, {of(c, api.Reg{}, api.Pair{}), false},
		// What is not asked: events beyond those that may be, keys and events that several lists have.
		{of(regOf("a", "x", 1<<20+1, 7, 1<<20+1), pairOf("a", "x", 7, 1<<20+1)), true}, {of(countOf("a", math.MaxInt), regOf("a", "a", math.MaxInt, 0, math.MaxInt), pairOf("a", "a", 0, math.MaxInt)), true},
	} {
		if got := May(x.s); got != x.want {
			t.Errorf("May(%v) = %v, want %v", x.s, got, x.want)
		}
	}
}

// P9.1: the same just if all lists are, one by one, also of states that may not be.
func TestSame(t *testing.T) {
	all := append(good(), bad()...)
	for _, a := range all {
		for _, b := range all {
			want := slices.Compare(wantPutLists(a), wantPutLists(b)) == 0
			if got := Same(a, b); got != want {
				t.Errorf("Same(%v, %v) = %v, want %v", a, b, got, want)
			}
		}
		if !Same(a, clone(a)) {
			t.Errorf("%v is not the same as itself", a)
		}
	}
}

// wantPutLists are the bytes of each list of a state for itself.
func wantPutLists(s api.State) []string {
	return words(string(wantPut(api.State{C: s.C})), string(wantPut(api.State{R: s.R})), string(wantPut(api.State{P: s.P})))
}

// P9.1: states that differ in one thing alone.
func TestSameEdges(t *testing.T) {
	c, d, r, s, p, q := countOf("a", 1), countOf("b", 2), regOf("a", "x", 1, 0, 1), regOf("b", "y", 2, 3, 4), pairOf("a", "x", 0, 1), pairOf("b", "y", 3, 4)
	full := of(c, d, r, s, p, q)
	for i, x := range []api.State{
		// How many there are.
		of(d, r, s, p, q), of(c, r, s, p, q), of(r, s, p, q), of(c, d, countOf("c", 3), r, s, p, q), of(c, d, d, r, s, p, q),
		of(c, d, s, p, q), of(c, d, r, p, q), of(c, d, p, q), of(c, d, r, s, regOf("c", "z", 1, 1, 1), p, q), of(c, d, r, s, s, p, q),
		of(c, d, r, s, q), of(c, d, r, s, p), of(c, d, r, s), of(c, d, r, s, p, q, pairOf("c", "z", 1, 1)), of(c, d, r, s, p, q, q),
		// Their order.
		of(d, c, r, s, p, q), of(c, d, s, r, p, q), of(c, d, r, s, q, p),
		// One field of one entry, the first one and the last one.
		of(countOf("aa", 1), d, r, s, p, q), of(countOf("a", -1), d, r, s, p, q), of(c, countOf("bb", 2), r, s, p, q), of(c, countOf("b", 3), r, s, p, q), of(countOf("a", 1+1<<32), d, r, s, p, q),
		of(c, d, regOf("aa", "x", 1, 0, 1), s, p, q), of(c, d, regOf("a", "xx", 1, 0, 1), s, p, q), of(c, d, regOf("a", "x", 2, 0, 1), s, p, q), of(c, d, regOf("a", "x", 1, 1, 1), s, p, q), of(c, d, regOf("a", "x", 1, 0, 2), s, p, q),
		of(c, d, r, regOf("c", "y", 2, 3, 4), p, q), of(c, d, r, regOf("b", "z", 2, 3, 4), p, q), of(c, d, r, regOf("b", "y", 3, 3, 4), p, q), of(c, d, r, regOf("b", "y", 2, 4, 4), p, q), of(c, d, r, regOf("b", "y", 2, 3, 3), p, q),
		of(c, d, r, s, pairOf("aa", "x", 0, 1), q), of(c, d, r, s, pairOf("a", "xx", 0, 1), q), of(c, d, r, s, pairOf("a", "x", 1, 1), q), of(c, d, r, s, pairOf("a", "x", 0, 2), q),
		of(c, d, r, s, p, pairOf("c", "y", 3, 4)), of(c, d, r, s, p, pairOf("b", "z", 3, 4)), of(c, d, r, s, p, pairOf("b", "y", 4, 4)), of(c, d, r, s, p, pairOf("b", "y", 3, 5)),
		{}, of(c), of(r), of(p),
	} {
		if Same(full, x) || Same(x, full) {
			t.Errorf("%d: %v and %v are the same", i, full, x)
		}
		if !Same(x, clone(x)) {
			t.Errorf("%d: %v is not the same as itself", i, x)
		}
	}
	if !Same(full, of(c, d, r, s, p, q)) {
		t.Error("what has the same is not the same")
	}
	// Lists without elements, nil or empty, each for itself and all.
	for _, x := range []api.State{{C: []api.Ctr{}}, {R: []api.Reg{}}, {P: []api.Pair{}}, {C: []api.Ctr{}, R: []api.Reg{}, P: []api.Pair{}}, {C: make([]api.Ctr, 0, 3), P: full.P[:0]}} {
		if !Same(x, api.State{}) || !Same(api.State{}, x) || !Same(x, x) {
			t.Errorf("%#v is another one than the empty one", x)
		}
	}
	// States that may not be.
	for _, x := range []api.State{of(api.Ctr{}), of(api.Reg{}), of(api.Pair{}), of(d, c), of(c, c), of(r, r), of(q, p), of(regOf("\xff", "", -1, -1, math.MinInt))} {
		if !Same(x, clone(x)) || Same(x, api.State{}) || Same(api.State{}, x) || Same(x, full) || Same(full, x) {
			t.Errorf("%v", x)
		}
	}
	if Same(of(regOf("\xff", "", 1, 1, 1)), of(regOf("\xfe", "", 1, 1, 1))) || Same(of(c, c), of(c)) || Same(of(pairOf("a", "bx", 0, 1)), of(pairOf("ab", "x", 0, 1))) {
		t.Error("what differs is the same")
	}
}

// P9.2: each kind on a state that has nothing, that has the key, and that has others.
func TestDoEdges(t *testing.T) {
	c, r, p := countOf("b", 7), regOf("b", "y", 3, 3, 3), pairOf("b", "y", 3, 3)
	others := of(c, r, p)
	x, y := pairOf("a", "x", 0, 1), pairOf("a", "x", 0, 2)
	for _, k := range []struct {
		s    api.State
		o    api.Op
		e    api.Event
		gen  int
		want api.State
	}{
		// Inc.
		{api.State{}, inc("a", 1), ev(0, 1), 1, of(countOf("a", 1))}, {api.State{}, inc("a", -1), ev(7, 1<<20), math.MaxInt, of(countOf("a", -1))}, {api.State{}, inc("a", 1<<20), ev(0, 1), 1, of(countOf("a", 1<<20))}, {api.State{}, inc("a", -1<<20), ev(0, 1), 1, of(countOf("a", -1<<20))},
		{of(countOf("a", 2)), inc("a", 3), ev(0, 1), 1, of(countOf("a", 5))}, {of(countOf("a", 2)), inc("a", -3), ev(0, 1), 1, of(countOf("a", -1))},
		{others, inc("a", 1), ev(0, 1), 1, of(countOf("a", 1), c, r, p)}, {others, inc("c", 1), ev(0, 1), 1, of(c, countOf("c", 1), r, p)}, {others, inc("b", 1), ev(0, 1), 1, of(countOf("b", 8), r, p)}, {of(regOf("a", "x", 1, 0, 1), pairOf("a", "x", 0, 1)), inc("a", 1), ev(0, 1), 1, of(countOf("a", 1), regOf("a", "x", 1, 0, 1), pairOf("a", "x", 0, 1))},
		// An Inc that brings a key to nothing.
		{of(countOf("a", 3)), inc("a", -3), ev(0, 1), 1, api.State{}}, {of(countOf("a", -3)), inc("a", 3), ev(0, 1), 1, api.State{}}, {others, inc("b", -7), ev(0, 1), 1, of(r, p)}, {of(countOf("a", 1), c, r, p), inc("a", -1), ev(0, 1), 1, others},
		// Sums that wrap around.
		{of(countOf("a", math.MaxInt)), inc("a", 1), ev(0, 1), 1, of(countOf("a", math.MinInt))}, {of(countOf("a", math.MinInt)), inc("a", -1), ev(0, 1), 1, of(countOf("a", math.MaxInt))}, {of(countOf("a", 1<<30)), inc("a", 1), ev(0, 1), 1, of(countOf("a", 1<<30+1))},
		// Set.
		{api.State{}, set("a", "x"), ev(0, 1), 1, of(regOf("a", "x", 1, 0, 1))}, {api.State{}, set("a", "x"), ev(7, 1<<20), math.MaxInt, of(regOf("a", "x", math.MaxInt, 7, 1<<20))}, {api.State{}, set("abcdefgh", "01234567"), ev(3, 4), 5, of(regOf("abcdefgh", "01234567", 5, 3, 4))},
		{others, set("a", "x"), ev(0, 1), 1, of(c, regOf("a", "x", 1, 0, 1), r, p)}, {others, set("c", "x"), ev(0, 1), 2, of(c, r, regOf("c", "x", 2, 0, 1), p)}, {of(countOf("a", 1), pairOf("a", "x", 0, 1)), set("a", "z"), ev(1, 2), 3, of(countOf("a", 1), regOf("a", "z", 3, 1, 2), pairOf("a", "x", 0, 1))},
		// One that is newer than what is there, by each part, and one that is older.
		{others, set("b", "x"), ev(0, 1), 4, of(c, regOf("b", "x", 4, 0, 1), p)}, {others, set("b", "x"), ev(4, 1), 3, of(c, regOf("b", "x", 3, 4, 1), p)}, {others, set("b", "x"), ev(3, 4), 3, of(c, regOf("b", "x", 3, 3, 4), p)}, {others, set("b", "z"), ev(3, 3), 3, of(c, regOf("b", "z", 3, 3, 3), p)},
		{others, set("b", "z"), ev(7, 9), 2, others}, {others, set("b", "z"), ev(2, 9), 3, others}, {others, set("b", "z"), ev(3, 2), 3, others}, {others, set("b", "x"), ev(3, 3), 3, others}, {others, set("b", "y"), ev(3, 3), 3, others},
		// Add.
		{api.State{}, add("a", "x"), ev(0, 1), 1, of(x)}, {api.State{}, add("a", "x"), ev(7, 1<<20), 9, of(pairOf("a", "x", 7, 1<<20))}, {of(x), add("a", "x"), ev(0, 2), 1, of(x, y)}, {of(y), add("a", "x"), ev(0, 1), 1, of(x, y)}, {of(x), add("a", "y"), ev(0, 2), 1, of(x, pairOf("a", "y", 0, 2))},
		{others, add("a", "x"), ev(0, 1), 1, of(c, r, x, p)}, {others, add("c", "x"), ev(0, 1), 1, of(c, r, p, pairOf("c", "x", 0, 1))}, {others, add("b", "y"), ev(3, 4), 1, of(c, r, p, pairOf("b", "y", 3, 4))}, {of(countOf("a", 1), regOf("a", "x", 1, 0, 1)), add("a", "x"), ev(0, 1), 1, of(countOf("a", 1), regOf("a", "x", 1, 0, 1), x)},
		// One that is there already.
		{of(x), add("a", "x"), ev(0, 1), 1, of(x)}, {of(x, y), add("a", "x"), ev(0, 1), 2, of(x, y)}, {others, add("b", "y"), ev(3, 3), 1, others},
		// Del.
		{of(x), del("a", "x"), ev(0, 2), 1, api.State{}}, {of(x, y), del("a", "x"), ev(0, 3), 1, api.State{}}, {of(x, pairOf("a", "x", 7, 9), pairOf("a", "y", 0, 1)), del("a", "x"), ev(0, 2), 1, of(pairOf("a", "y", 0, 1))}, {of(c, r, x, p), del("a", "x"), ev(0, 1), 1, others}, {others, del("b", "y"), ev(0, 1), 1, of(c, r)},
		// Of what is not there.
		{api.State{}, del("a", "x"), ev(0, 1), 1, api.State{}}, {of(x), del("a", "y"), ev(0, 1), 1, of(x)}, {of(x), del("b", "x"), ev(0, 1), 1, of(x)}, {others, del("a", "x"), ev(0, 1), 1, others}, {others, del("b", "x"), ev(0, 1), 1, others}, {of(countOf("a", 1), regOf("a", "x", 1, 0, 1)), del("a", "x"), ev(0, 1), 1, of(countOf("a", 1), regOf("a", "x", 1, 0, 1))},
	} {
		if got, no := Do(k.s, k.o, k.e, k.gen); no != 0 || !equal(got, k.want) {
			t.Errorf("Do(%v, %v, %v, %d) = %v, %d, want %v", k.s, k.o, k.e, k.gen, got, no, k.want)
		}
		checkDo(t, k.s, k.o, k.e, k.gen)
	}
}

// each is an operation of each kind.
func each() []api.Op {
	return []api.Op{inc("a", 1), set("a", "x"), add("a", "x"), del("a", "x")}
}

// P9.2: ErrArg, and an empty state, for each cause in its turn; at its edges what may be.
func TestDoArg(t *testing.T) {
	ok := of(countOf("a", 1), regOf("a", "x", 1, 0, 1), pairOf("a", "x", 0, 1))
	fault := func(s api.State, o api.Op, e api.Event, gen int) {
		t.Helper()
		if got, no := Do(s, o, e, gen); no != api.ErrArg || !empty(got) {
			t.Errorf("Do(%v, %v, %v, %d) = %v, %d, want ErrArg", s, o, e, gen, got, no)
		}
	}
	fine := func(s api.State, o api.Op, e api.Event, gen int) {
		t.Helper()
		if got, no := Do(s, o, e, gen); no != api.OK || !May(got) {
			t.Errorf("Do(%v, %v, %v, %d) = %v, %d, want no error", s, o, e, gen, got, no)
		}
		checkDo(t, s, o, e, gen)
	}
	for _, o := range each() {
		for _, s := range []api.State{{}, ok} {
			for _, n := range []int{0, 7} {
				fine(s, o, ev(n, 1), 1)
			}
			for _, n := range []int{-1, 8, 9, 256, 1 << 32, -8, math.MaxInt, math.MinInt} {
				fault(s, o, ev(n, 1), 1)
			}
			for _, n := range []int{1, 2, 1<<20 - 1, 1 << 20} {
				fine(s, o, ev(0, n), 1)
			}
			for _, n := range []int{0, -1, 1<<20 + 1, 1<<32 + 1, math.MaxInt, math.MinInt, -1 << 20} {
				fault(s, o, ev(0, n), 1)
			}
			for _, n := range []int{1, 2, 1<<20 + 1, math.MaxInt} {
				fine(s, o, ev(0, 1), n)
			}
			for _, n := range []int{0, -1, -2, math.MinInt, math.MinInt + 1} {
				fault(s, o, ev(0, 1), n)
			}
			fault(s, o, ev(-1, 0), 0)
			fault(s, o, api.Event{}, 1)
			for _, x := range wrong() {
				key := o
				key.Key = x
				fault(s, key, ev(0, 1), 1)
			}
		}
		for _, s := range bad() {
			fault(s, o, ev(0, 1), 1)
		}
	}
	for _, kind := range []int{-1, 4, 5, 256, 1 << 32, -4, math.MaxInt, math.MinInt} {
		for _, s := range []api.State{{}, ok} {
			fault(s, api.Op{Kind: kind, Key: "a", N: 1}, ev(0, 1), 1)
			fault(s, api.Op{Kind: kind, Key: "a", Elem: "x"}, ev(0, 1), 1)
			fault(s, api.Op{Kind: kind}, ev(0, 1), 1)
		}
	}
	for _, s := range []api.State{{}, ok} {
		for _, n := range []int{0, 1<<20 + 1, -1<<20 - 1, math.MaxInt, math.MinInt} {
			fault(s, inc("a", n), ev(0, 1), 1)
		}
		fault(s, api.Op{}, ev(0, 1), 1)
		fault(s, api.Op{Kind: api.Inc, Key: "a", Elem: "x", N: 1}, ev(0, 1), 1)
		for kind := 1; kind < 4; kind++ {
			fault(s, api.Op{Kind: kind, Key: "a", Elem: "x", N: 1}, ev(0, 1), 1)
			for _, x := range wrong() {
				fault(s, api.Op{Kind: kind, Key: "a", Elem: x}, ev(0, 1), 1)
			}
		}
	}
	fault(of(api.Ctr{}), api.Op{}, api.Event{}, 0)
}

// P9.2: many operations on many states.
func TestDo(t *testing.T) {
	for _, s := range good() {
		for _, key := range words("a", "aa", "b", "c", "0") {
			for _, elem := range words("x", "xx", "w") {
				for _, gen := range []int{1, 2, 3} {
					for _, e := range []api.Event{ev(0, 1), ev(0, 2), ev(1, 1), ev(7, 1<<20)} {
						checkDo(t, s, set(key, elem), e, gen)
						checkDo(t, s, add(key, elem), e, gen)
						checkDo(t, s, del(key, elem), e, gen)
					}
				}
			}
			for _, n := range []int{1, -1, 3, -3, 5, 1 << 20, -1 << 20} {
				checkDo(t, s, inc(key, n), ev(1, 1), 1)
			}
		}
	}
}

// The chapter's example.
func TestExample(t *testing.T) {
	got, no := Do(api.State{}, api.Op{Kind: api.Set, Key: "a", Elem: "x"}, api.Event{Node: 0, Seq: 1}, 1)
	if no != api.OK || !slices.Equal(got.R, []api.Reg{{Key: "a", Elem: "x", Gen: 1, Ev: api.Event{Node: 0, Seq: 1}}}) || len(got.C) != 0 || len(got.P) != 0 {
		t.Error(got, no)
	}
}

// P9.3: what the three come to, list by list.
func TestMerge(t *testing.T) {
	all := good()
	for _, base := range all {
		for _, a := range all {
			for _, b := range all {
				checkMerge(t, base, a, b)
			}
		}
	}
}

// P9.3: the edges by name.
func TestMergeEdges(t *testing.T) {
	c, r, p := countOf("a", 1), regOf("a", "x", 1, 0, 1), pairOf("a", "x", 0, 1)
	all := of(c, r, p)
	none := api.State{}
	for _, k := range []struct{ base, a, b, want api.State }{
		{none, none, none, none}, {api.State{C: []api.Ctr{}}, api.State{R: []api.Reg{}}, api.State{P: []api.Pair{}}, none},
		// Nothing in each of them: registers stay, whatever the base has.
		{all, none, none, of(countOf("a", -1))}, {none, all, none, all}, {none, none, all, all}, {none, all, all, of(countOf("a", 2), r, p)}, {all, none, all, of(r)}, {all, all, none, of(r)}, {all, all, all, all},
		// Counts for themselves.
		{of(c), of(countOf("a", 3)), of(countOf("b", 5)), of(countOf("a", 2), countOf("b", 5))}, {of(c), of(countOf("a", 3)), of(c), of(countOf("a", 3))}, {of(countOf("a", 4)), of(countOf("a", 3)), of(c), none}, {of(countOf("a", math.MinInt)), of(countOf("a", 1)), none, of(countOf("a", math.MinInt+1))},
		// Registers for themselves: the base says nothing.
		{none, of(r), of(regOf("a", "y", 2, 0, 1)), of(regOf("a", "y", 2, 0, 1))}, {none, of(regOf("a", "y", 2, 0, 1)), of(r), of(regOf("a", "y", 2, 0, 1))}, {of(regOf("a", "z", 9, 7, 9)), of(r), none, of(r)}, {of(regOf("a", "z", 9, 7, 9)), of(r), of(regOf("b", "x", 1, 0, 1)), of(r, regOf("b", "x", 1, 0, 1))}, {of(r), none, none, none},
		// Pairs for themselves.
		{of(p), none, of(p, pairOf("a", "x", 0, 2)), of(pairOf("a", "x", 0, 2))}, {of(p), of(p), none, none}, {none, of(p), of(pairOf("a", "x", 0, 2)), of(p, pairOf("a", "x", 0, 2))}, {none, of(pairOf("b", "x", 0, 1)), of(p), of(p, pairOf("b", "x", 0, 1))}, {of(p), none, none, none},
		// Each list by its own.
		{of(c), of(r), of(p), of(countOf("a", -1), r, p)}, {of(r), of(p), of(c), of(c, p)}, {of(p), of(c), of(r), of(c, r)},
		// All at once.
		{
			of(countOf("a", 1), countOf("b", 2), regOf("a", "x", 1, 0, 1), pairOf("a", "x", 0, 1), pairOf("b", "y", 0, 2)),
			of(countOf("a", 4), countOf("b", 2), regOf("a", "y", 2, 1, 1), pairOf("b", "y", 0, 2), pairOf("b", "z", 1, 2)),
			of(countOf("a", 1), countOf("c", 9), regOf("a", "z", 2, 2, 1), regOf("d", "q", 3, 2, 2), pairOf("a", "x", 0, 1), pairOf("a", "x", 2, 3)),
			of(countOf("a", 4), countOf("c", 9), regOf("a", "z", 2, 2, 1), regOf("d", "q", 3, 2, 2), pairOf("a", "x", 2, 3), pairOf("b", "z", 1, 2)),
		},
	} {
		for _, two := range [][2]api.State{{k.a, k.b}, {k.b, k.a}} {
			if got, no := Merge(k.base, two[0], two[1]); no != 0 || !equal(got, k.want) {
				t.Errorf("Merge(%v, %v, %v) = %v, %d, want %v", k.base, two[0], two[1], got, no, k.want)
			}
			checkMerge(t, k.base, two[0], two[1])
		}
	}
}

// P9.3: ErrArg, and an empty state, if one of the three may not be, whichever it is.
func TestMergeArg(t *testing.T) {
	ok := of(countOf("a", 1), regOf("a", "x", 1, 0, 1), pairOf("a", "x", 0, 1))
	none := api.State{}
	for _, x := range bad() {
		for _, k := range [][3]api.State{
			{x, ok, ok}, {ok, x, ok}, {ok, ok, x}, {x, x, ok}, {x, ok, x}, {ok, x, x}, {x, x, x},
			{x, none, none}, {none, x, none}, {none, none, x}, {x, none, ok}, {none, x, ok}, {none, ok, x}, {ok, none, x},
		} {
			if got, no := Merge(k[0], k[1], k[2]); no != api.ErrArg || !empty(got) {
				t.Errorf("Merge(%v, %v, %v) = %v, %d, want ErrArg", k[0], k[1], k[2], got, no)
			}
		}
	}
}

// P9.4: the bytes by name.
func TestPutEdges(t *testing.T) {
	end := func(x byte) []byte { return []byte{255, 255, 255, 255, 255, 255, 255, 255, 255, x} }
	join := func(l ...any) []byte {
		var b []byte
		for _, x := range l {
			switch x := x.(type) {
			case int:
				b = append(b, byte(x))
			case string:
				b = append(b, x...)
			case []byte:
				b = append(b, x...)
			}
		}
		return b
	}
	// The least int, as 2^64 and it, is 2^63.
	least := []byte{128, 128, 128, 128, 128, 128, 128, 128, 128, 1}
	// The greatest one has nine digits.
	most := []byte{255, 255, 255, 255, 255, 255, 255, 255, 127}
	long := strings.Repeat("q", 300)
	for _, k := range []struct {
		s    api.State
		want []byte
	}{
		{api.State{}, join(0, 0, 0)}, {api.State{C: []api.Ctr{}, R: []api.Reg{}, P: []api.Pair{}}, join(0, 0, 0)},
		// Counts: numbers below 0 and above, of one byte and of more, at the ends.
		{of(countOf("a", 1)), join(1, 1, "a", 2, 0, 0)}, {of(countOf("a", -1)), join(1, 1, "a", 1, 0, 0)}, {of(countOf("a", 63)), join(1, 1, "a", 126, 0, 0)}, {of(countOf("a", -64)), join(1, 1, "a", 127, 0, 0)}, {of(countOf("a", 64)), join(1, 1, "a", 128, 1, 0, 0)}, {of(countOf("a", -65)), join(1, 1, "a", 129, 1, 0, 0)}, {of(countOf("a", 150)), join(1, 1, "a", 172, 2, 0, 0)},
		{of(countOf("a", math.MaxInt)), join(1, 1, "a", 254, end(1)[1:], 0, 0)}, {of(countOf("a", math.MinInt)), join(1, 1, "a", end(1), 0, 0)}, {of(countOf("a", 0)), join(1, 1, "a", 0, 0, 0)},
		{of(countOf("a", 1), countOf("bc", -2)), join(2, 1, "a", 2, 2, "bc", 3, 0, 0)}, {of(countOf("bc", -2), countOf("a", 1)), join(2, 2, "bc", 3, 1, "a", 2, 0, 0)},
		// Registers.
		{of(regOf("a", "x", 1, 0, 1)), join(0, 1, 1, "a", 1, "x", 1, 0, 1, 0)}, {of(regOf("ab", "xyz", 300, 7, 128)), join(0, 1, 2, "ab", 3, "xyz", 172, 2, 7, 128, 1, 0)}, {of(regOf("a", "x", 127, 0, 1<<20)), join(0, 1, 1, "a", 1, "x", 127, 0, 128, 128, 64, 0)},
		{of(regOf("a", "x", -1, 2, 3)), join(0, 1, 1, "a", 1, "x", end(1), 2, 3, 0)}, {of(regOf("a", "x", 2, -1, 3)), join(0, 1, 1, "a", 1, "x", 2, end(1), 3, 0)}, {of(regOf("a", "x", 2, 3, -1)), join(0, 1, 1, "a", 1, "x", 2, 3, end(1), 0)},
		{of(regOf("a", "x", math.MinInt, math.MaxInt, -2)), join(0, 1, 1, "a", 1, "x", least, most, 254, end(1)[1:], 0)}, {of(regOf("a", "x", math.MaxInt, math.MinInt, 0)), join(0, 1, 1, "a", 1, "x", most, least, 0, 0)}, {of(regOf("a", "x", 1, 0, 1), regOf("b", "y", 2, 1, 3)), join(0, 2, 1, "a", 1, "x", 1, 0, 1, 1, "b", 1, "y", 2, 1, 3, 0)},
		// Pairs.
		{of(pairOf("a", "x", 0, 1)), join(0, 0, 1, 1, "a", 1, "x", 0, 1)}, {of(pairOf("ab", "xyz", 7, 300)), join(0, 0, 1, 2, "ab", 3, "xyz", 7, 172, 2)}, {of(pairOf("a", "x", -1, 3)), join(0, 0, 1, 1, "a", 1, "x", end(1), 3)}, {of(pairOf("a", "x", 3, -1)), join(0, 0, 1, 1, "a", 1, "x", 3, end(1))},
		{of(pairOf("a", "x", math.MinInt, math.MaxInt)), join(0, 0, 1, 1, "a", 1, "x", least, most)}, {of(pairOf("a", "x", math.MaxInt, math.MinInt)), join(0, 0, 1, 1, "a", 1, "x", most, least)}, {of(pairOf("a", "x", 0, 1), pairOf("a", "x", 0, 2)), join(0, 0, 2, 1, "a", 1, "x", 0, 1, 1, "a", 1, "x", 0, 2)},
		// All.
		{of(countOf("a", 1), regOf("b", "x", 2, 3, 4), pairOf("c", "y", 5, 6)), join(1, 1, "a", 2, 1, 1, "b", 1, "x", 2, 3, 4, 1, 1, "c", 1, "y", 5, 6)},
		// Texts of no byte and of many, states that may not be.
		{of(api.Ctr{}, api.Reg{}, api.Pair{}), join(1, 0, 0, 1, 0, 0, 0, 0, 0, 1, 0, 0, 0, 0)}, {of(countOf(long, 1)), join(1, 172, 2, long, 2, 0, 0)}, {of(regOf(long, "", 1, 2, 3)), join(0, 1, 172, 2, long, 0, 1, 2, 3, 0)}, {of(regOf("", long, 1, 2, 3)), join(0, 1, 0, 172, 2, long, 1, 2, 3, 0)}, {of(pairOf(long, "", 1, 2)), join(0, 0, 1, 172, 2, long, 0, 1, 2)}, {of(pairOf("", long, 1, 2)), join(0, 0, 1, 0, 172, 2, long, 1, 2)},
		{of(countOf("\xff\x00", 1), pairOf("é", "日本", 1, 2)), join(1, 2, "\xff\x00", 2, 0, 1, 2, "é", 6, "日本", 1, 2)}, {of(pairOf("a", "x", 0, 1), pairOf("a", "x", 0, 1)), join(0, 0, 2, 1, "a", 1, "x", 0, 1, 1, "a", 1, "x", 0, 1)},
	} {
		if got := Put(k.s); !bytes.Equal(got, k.want) {
			t.Errorf("Put(%v) = %v, want %v", k.s, got, k.want)
		}
		checkPut(t, k.s)
	}
}

// P9.4: all states, numbers and texts, and so many that how many there are has more than one byte.
func TestPut(t *testing.T) {
	for _, s := range append(good(), bad()...) {
		checkPut(t, s)
	}
	for _, n := range numbers() {
		checkPut(t, of(countOf("a", n)))
		checkPut(t, of(regOf("a", "x", n, 1, 2)))
		checkPut(t, of(regOf("a", "x", 1, n, 2)))
		checkPut(t, of(regOf("a", "x", 1, 2, n)))
		checkPut(t, of(pairOf("a", "x", n, 1)))
		checkPut(t, of(pairOf("a", "x", 1, n)))
	}
	for _, s := range append(wrong(), strings.Repeat("a", 127), strings.Repeat("a", 128), strings.Repeat("\x80", 1<<16)) {
		checkPut(t, of(countOf(s, 1), regOf(s, "x", 1, 2, 3), regOf("a", s, 1, 2, 3), pairOf(s, "x", 1, 2), pairOf("a", s, 1, 2)))
	}
	for _, n := range []int{127, 128, 129, 300, 20000} {
		checkPut(t, api.State{C: make([]api.Ctr, n)})
		checkPut(t, api.State{R: make([]api.Reg, n)})
		checkPut(t, api.State{P: make([]api.Pair, n)})
	}
}

// P9.5: states that may be are the same just if their bytes are; from the bytes the state is got again.
func TestBytes(t *testing.T) {
	all := append(good(),
		// Of which the bytes of one part may seem those of another one.
		of(countOf("a", 1), countOf("b", 1)), of(countOf("a", 1), regOf("b", "x", 1, 0, 1)), of(countOf("a1b", 1)), of(regOf("a", "bx", 1, 0, 1)), of(regOf("ab", "x", 1, 0, 1)), of(pairOf("a", "bx", 0, 1)), of(pairOf("ab", "x", 0, 1)),
		of(regOf("a", "x", 1, 1, 128)), of(regOf("a", "x", 1, 1, 1)), of(regOf("a", "x", 128, 1, 1)), of(regOf("a", "x", 1+1<<32, 1, 1)), of(countOf("a", 1+1<<32)), of(countOf("a", 1+1<<62)), of(pairOf("a", "x", 1, 1+1<<32)),
	)
	for _, a := range all {
		got, behind := read(Put(a))
		if !equal(got, a) || len(behind) != 0 {
			t.Errorf("%v is put as the bytes of %v, and %v", a, got, behind)
		}
		for _, b := range all {
			if same := bytes.Equal(Put(a), Put(b)); same != equal(a, b) || Same(a, b) != same {
				t.Errorf("%v and %v: the same is %v, their bytes %v", a, b, Same(a, b), same)
			}
		}
	}
}

// P9.5: whichever is a.
func TestEither(t *testing.T) {
	all := good()
	for _, base := range all {
		for _, a := range all {
			for _, b := range all {
				ab, no := Merge(base, a, b)
				ba, na := Merge(base, b, a)
				if no != 0 || na != 0 || !Same(ab, ba) || !bytes.Equal(Put(ab), Put(ba)) {
					t.Errorf("from %v: %v and %v are merged as %v, the other way round as %v", base, a, b, ab, ba)
				}
				if !May(ab) {
					t.Errorf("from %v: %v and %v are merged as %v, which may not be", base, a, b, ab)
				}
			}
		}
	}
}

// merge and do are Merge and Do of what may be.
func merge(t *testing.T, base, a, b api.State) api.State {
	t.Helper()
	s, no := Merge(base, a, b)
	if no != 0 {
		t.Fatalf("Merge(%v, %v, %v): %d", base, a, b, no)
	}
	return s
}

func do(t *testing.T, s api.State, o api.Op, e api.Event, gen int) api.State {
	t.Helper()
	s, no := Do(s, o, e, gen)
	if no != 0 {
		t.Fatalf("Do(%v, %v, %d): %d", o, e, gen, no)
	}
	return s
}

// P2: three that come from one are merged to the same, in whatever order.
func TestOrder(t *testing.T) {
	all := good()
	for i, base := range all {
		for j, a := range all {
			b, c := all[(i*3+j*5+1)%len(all)], all[(i*7+j*2+4)%len(all)]
			want := merge(t, base, merge(t, base, a, b), c)
			for _, got := range []api.State{
				merge(t, base, a, merge(t, base, b, c)), merge(t, base, merge(t, base, c, a), b), merge(t, base, c, merge(t, base, b, a)),
				merge(t, a, merge(t, base, a, b), merge(t, base, a, c)), merge(t, b, merge(t, base, c, b), merge(t, base, b, a)),
			} {
				if !Same(got, want) {
					t.Errorf("from %v: %v, %v and %v are merged as %v, and as %v", base, a, b, c, want, got)
				}
			}
		}
	}
}

// side is what one has done: from a state on operations of one node, of rising generations.
func side(t *testing.T, s api.State, l []api.Op, node, gen int) api.State {
	t.Helper()
	for i, o := range l {
		s = do(t, s, o, ev(node, i+1), gen+i+1)
	}
	return s
}

// P2: two sides that both go on from what was done come to what all operations come to, whichever is a: Incs together, the newest Set of all, each Add but those that a Del behind it took away.
func TestSides(t *testing.T) {
	next := chance(11)
	op := func() api.Op {
		key, elem := words("a", "b")[next(2)], words("x", "y")[next(2)]
		return []api.Op{inc(key, next(3)*2-3), set(key, elem), add(key, elem), del(key, elem)}[next(4)]
	}
	for range 3000 {
		var l [3][]api.Op
		for i := range l {
			for range next(5) {
				l[i] = append(l[i], op())
			}
		}
		base := side(t, api.State{}, l[0], 0, 0)
		a, b := side(t, base, l[1], 1, len(l[0])), side(t, base, l[2], 2, len(l[0]))
		want := wantSides(l)
		if got := merge(t, base, a, b); !Same(got, want) {
			t.Errorf("%v: %v, want %v", l, got, want)
		}
		if got := merge(t, base, b, a); !Same(got, want) {
			t.Errorf("%v: %v the other way round, want %v", l, got, want)
		}
	}
}

// wantSides asks each operation of the first list, which both know, and of two others, which don't know one another.
func wantSides(l [3][]api.Op) api.State {
	m := from(api.State{})
	for node, mine := range l {
		start := 0
		if node > 0 {
			start = len(l[0])
		}
		for i, o := range mine {
			behind := mine[i+1:]
			if node == 0 {
				behind = slices.Concat(behind, l[1], l[2])
			}
			switch o.Kind {
			case 0:
				m.c[o.Key] += o.N
			case 1:
				m.set(regOf(o.Key, o.Elem, start+i+1, node, i+1))
			case 2:
				if !slices.Contains(behind, del(o.Key, o.Elem)) {
					m.p[pairOf(o.Key, o.Elem, node, i+1)] = true
				}
			}
		}
	}
	return m.state()
}

// room is a state of the same lists, with others behind their ends, of which the first of each is told.
func room(s api.State) (full, told api.State) {
	full = api.State{C: append(slices.Clone(s.C), countOf("y", 77), api.Ctr{}), R: append(slices.Clone(s.R), regOf("y", "y", 7, 7, 7), api.Reg{}), P: append(slices.Clone(s.P), pairOf("y", "y", 7, 77), api.Pair{})}
	return full, api.State{C: full.C[:len(s.C)], R: full.R[:len(s.R)], P: full.P[:len(s.P)]}
}

// spoil writes over all that lists have.
func spoil(s api.State) {
	for i := range s.C {
		s.C[i] = countOf("q", 99)
	}
	for i := range s.R {
		s.R[i] = regOf("q", "q", 9, 9, 9)
	}
	for i := range s.P {
		s.P[i] = pairOf("q", "q", 9, 99)
	}
}

func restore(to, keep api.State) {
	copy(to.C, keep.C)
	copy(to.R, keep.R)
	copy(to.P, keep.P)
}

// R3: what is handed in stays, also behind its end, and what is answered is new, also in the lists that nothing was done to.
func TestOwn(t *testing.T) {
	type call struct {
		name string
		f    func(base, a, b api.State) (api.State, api.Errno)
	}
	calls := []call{
		{"Merge", Merge},
		{"Merge with nothing", func(base, a, b api.State) (api.State, api.Errno) { return Merge(api.State{}, a, api.State{}) }},
		{"Merge of nothing", func(base, a, b api.State) (api.State, api.Errno) { return Merge(api.State{}, api.State{}, a) }},
		{"Merge with base", func(base, a, b api.State) (api.State, api.Errno) { return Merge(base, base, a) }},
		{"Merge with itself", func(base, a, b api.State) (api.State, api.Errno) { return Merge(a, a, a) }},
		{"May, Same and Put", func(base, a, b api.State) (api.State, api.Errno) {
			May(a)
			Same(a, b)
			Same(a, a)
			Put(a)
			return api.State{}, 0
		}},
	}
	for _, o := range append(each(), inc("zzz", 1), inc("a", -1), set("zzz", "z"), set("0", "0"), add("zzz", "z"), add("0", "0"), del("zzz", "z"), del("b", "y"), api.Op{}) {
		for _, gen := range []int{0, 1, 9} {
			calls = append(calls, call{"Do", func(base, a, b api.State) (api.State, api.Errno) { return Do(a, o, ev(0, 1), gen) }})
		}
	}
	all := append(good(), bad()...)
	for _, c := range calls {
		for i, s := range all {
			var rooms, told, keeps [3]api.State
			for k, m := range []api.State{all[(i*3+1)%len(all)], s, all[(i*5+2)%len(all)]} {
				rooms[k], told[k] = room(m)
				keeps[k] = clone(rooms[k])
			}
			same := func(what string) {
				for k := range rooms {
					if !equal(rooms[k], keeps[k]) {
						t.Fatalf("%s: %s", c.name, what)
					}
				}
			}
			got, no := c.f(told[0], told[1], told[2])
			same("what is handed in is changed")
			want := clone(got)
			for k := range rooms {
				spoil(rooms[k])
			}
			if !equal(got, want) {
				t.Fatalf("%s: the answer changes with what was handed in", c.name)
			}
			for k := range rooms {
				restore(rooms[k], keeps[k])
			}
			spoil(api.State{C: got.C[:cap(got.C)], R: got.R[:cap(got.R)], P: got.P[:cap(got.P)]})
			same("what was handed in changes with the answer")
			if again, na := c.f(told[0], told[1], told[2]); !equal(again, want) || na != no {
				t.Fatalf("%s: another answer the next time", c.name)
			}
		}
	}
}

// R3: the bytes are the caller's own.
func TestOwnBytes(t *testing.T) {
	for _, s := range good() {
		full, told := room(s)
		got, keep := Put(told), clone(full)
		want := slices.Clone(got)
		spoil(full)
		if !bytes.Equal(got, want) {
			t.Fatal("the bytes change with the state")
		}
		restore(full, keep)
		for i := range got[:cap(got)] {
			got[:cap(got)][i] = 99
		}
		if !equal(full, keep) || !bytes.Equal(Put(told), want) {
			t.Fatal("the state changes with the bytes")
		}
	}
}

// P1, R1, R5: every call ends, none panics, whatever it is given, and each answers as the chapter says.
func TestAny(t *testing.T) {
	odd := append(wrong(), strings.Repeat("a", 1<<12), "a", "b", "aa", "x")
	next := chance(9)
	number := func() int { return numbers()[next(len(numbers()))] }
	text := func() string {
		if next(4) > 0 {
			return words("a", "aa", "b", "x")[next(4)]
		}
		return odd[next(len(odd))]
	}
	// Of four states three have small parts alone, of which some may be.
	state := func() api.State {
		s := some(next)
		if next(4) > 0 {
			return s
		}
		for range next(3) {
			switch next(3) {
			case 0:
				s.C = slices.Insert(s.C, next(len(s.C)+1), countOf(text(), number()))
			case 1:
				s.R = slices.Insert(s.R, next(len(s.R)+1), regOf(text(), text(), number(), number(), number()))
			case 2:
				s.P = slices.Insert(s.P, next(len(s.P)+1), pairOf(text(), text(), number(), number()))
			}
		}
		return s
	}
	for range 20000 {
		a, b, c := state(), state(), state()
		if got, want := May(a), wantMay(a); got != want {
			t.Errorf("May(%v) = %v, want %v", a, got, want)
		}
		if got, want := Same(a, b), equal(a, b); got != want {
			t.Errorf("Same(%v, %v) = %v, want %v", a, b, got, want)
		}
		checkDo(t, a, each()[next(4)], ev(number(), 1), 1)
		checkDo(t, a, each()[next(4)], ev(1, number()), 1)
		checkDo(t, a, each()[next(4)], ev(1, 1), number())
		checkDo(t, a, each()[next(4)], ev(next(2), next(2)+1), next(3))
		checkDo(t, a, api.Op{Kind: next(6) - 1, Key: text(), Elem: text()}, ev(next(2), 2), 2)
		checkDo(t, a, api.Op{Kind: number(), Key: text(), Elem: text(), N: number()}, ev(number(), number()), number())
		checkDo(t, a, inc(text(), number()), ev(1, 1), 1)
		checkMerge(t, a, b, c)
		checkPut(t, a)
	}
}

// R1: many of each, put in one by one, merged at once and put in bytes.
func TestMany(t *testing.T) {
	var s api.State
	for x := range 400 {
		key, e := string([]byte{'a' + byte(x/20), 'a' + byte(x%20)}), ev(x%8, x+1)
		for _, o := range []api.Op{inc(key, x+1), set(key, key), add(key, key)} {
			s = do(t, s, o, e, x+1)
		}
	}
	if !May(s) || len(s.C) != 400 || len(s.R) != 400 || len(s.P) != 400 || !Same(merge(t, s, s, s), s) {
		t.Error("many are not as they were put in")
	}
	if got, behind := read(Put(s)); !equal(got, s) || len(behind) != 0 {
		t.Error("many are not as they were put in bytes")
	}
	for x := range 400 {
		s = do(t, s, del(s.P[0].Key, s.P[0].Elem), ev(0, 1), 1)
		s = do(t, s, inc(s.C[0].Key, -x-1), ev(0, 1), 1)
	}
	if len(s.C) != 0 || len(s.P) != 0 || len(s.R) != 400 {
		t.Error("what was taken away is there", s)
	}
}
