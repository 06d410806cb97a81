package eval

import (
	"bytes"
	"cmp"
	"crypto/sha256"
	"maps"
	"math"
	"slices"
	"strings"
	"testing"

	"anabranch/api"
	"anabranch/commit"
	"anabranch/dag"
	"anabranch/front"
	"anabranch/state"
)

const most = 1048576

// inc, set, add and del are operations.
func inc(key string, n int) api.Op { return api.Op{Kind: 0, Key: key, N: n} }
func set(key, elem string) api.Op  { return api.Op{Kind: 1, Key: key, Elem: elem} }
func add(key, elem string) api.Op  { return api.Op{Kind: 2, Key: key, Elem: elem} }
func del(key, elem string) api.Op  { return api.Op{Kind: 3, Key: key, Elem: elem} }

// of is a commit of a generation, behind others, whatever their own ones are.
func of(node, seq, gen int, o api.Op, parents ...api.Commit) api.Commit {
	c := api.Commit{Ev: api.Event{Node: node, Seq: seq}, Gen: gen, Op: o}
	for _, p := range parents {
		c.Parents = append(c.Parents, idOf(p))
	}
	slices.SortFunc(c.Parents, compare)
	return c
}

// next is a commit of the generation that stands behind others.
func next(node, seq int, o api.Op, parents ...api.Commit) api.Commit {
	gen := 0
	for _, p := range parents {
		gen = max(gen, p.Gen)
	}
	return of(node, seq, gen+1, o, parents...)
}

func mergeOf(parents ...api.Commit) api.Commit {
	return next(-1, 0, api.Op{}, parents...)
}

func compare(a, b api.ID) int { return bytes.Compare(a[:], b[:]) }

// idOf is the SHA-256 of a commit's bytes, or noughts if it has none.
func idOf(c api.Commit) api.ID {
	b, no := commit.Put(c)
	if no != api.OK {
		return api.ID{}
	}
	return sha256.Sum256(b)
}

func idsOf(l ...api.Commit) []api.ID {
	var a []api.ID
	for _, c := range l {
		a = append(a, idOf(c))
	}
	return a
}

func clone(l []api.Commit) []api.Commit {
	l = slices.Clone(l)
	for i := range l {
		l[i].Parents = slices.Clone(l[i].Parents)
	}
	return l
}

func same(a, b []api.Commit) bool { return slices.EqualFunc(a, b, commit.Same) }

// count, reg and pair are what states have; stateOf is a state of them, in order.
func count(key string, n int) api.Ctr { return api.Ctr{Key: key, N: n} }

func reg(key, elem string, gen, node, seq int) api.Reg {
	return api.Reg{Key: key, Elem: elem, Gen: gen, Ev: api.Event{Node: node, Seq: seq}}
}

func pair(key, elem string, node, seq int) api.Pair {
	return api.Pair{Key: key, Elem: elem, Ev: api.Event{Node: node, Seq: seq}}
}

func stateOf(l ...any) api.State {
	var s api.State
	for _, x := range l {
		switch x := x.(type) {
		case api.Ctr:
			s.C = append(s.C, x)
		case api.Reg:
			s.R = append(s.R, x)
		case api.Pair:
			s.P = append(s.P, x)
		default:
			panic("nothing that a state has")
		}
	}
	return s
}

// equal tells whether states are the same, without state's Same.
func equal(a, b api.State) bool {
	return slices.Equal(a.C, b.C) && slices.Equal(a.R, b.R) && slices.Equal(a.P, b.P)
}

func cloneState(s api.State) api.State {
	return api.State{C: slices.Clone(s.C), R: slices.Clone(s.R), P: slices.Clone(s.P)}
}

// chance answers numbers that seem random, the same ones each time.
func chance(seed uint32) func(int) int {
	return func(n int) int {
		seed = seed*1664525 + 1013904223
		return int(seed>>8) % n
	}
}

func mixed[T any](l []T, to func(int) int) []T {
	l = slices.Clone(l)
	for i := range l {
		j := i + to(len(l)-i)
		l[i], l[j] = l[j], l[i]
	}
	return l
}

// orders are all orders of a short list, and some of a longer one.
func orders[T any](l []T) [][]T {
	if len(l) > 5 {
		back := slices.Clone(l)
		slices.Reverse(back)
		all, to := [][]T{l, back}, chance(uint32(len(l)))
		for range 20 {
			all = append(all, mixed(l, to))
		}
		return all
	}
	all := [][]T{{}}
	for _, x := range l {
		var more [][]T
		for _, o := range all {
			for i := range len(o) + 1 {
				more = append(more, slices.Insert(slices.Clone(o), i, x))
			}
		}
		all = more
	}
	return all
}

// wantKnows tells by places who knows whom: parents at first, and then, again and again, what these know.
func wantKnows(l []api.Commit) [][]bool {
	own, knows := idsOf(l...), make([][]bool, len(l))
	for i, c := range l {
		knows[i] = make([]bool, len(l))
		for j := range l {
			knows[i][j] = slices.Contains(c.Parents, own[j])
		}
	}
	for k := range l {
		for i := range l {
			for j := range l {
				knows[i][j] = knows[i][j] || knows[i][k] && knows[k][j]
			}
		}
	}
	return knows
}

// newer asks the chapter's questions of two registers, one behind the other.
func newer(a, b api.Reg) bool {
	return cmp.Or(cmp.Compare(a.Gen, b.Gen), cmp.Compare(a.Ev.Node, b.Ev.Node), cmp.Compare(a.Ev.Seq, b.Ev.Seq), strings.Compare(a.Elem, b.Elem)) > 0
}

// wantEval is, of a closed list, what the chapter says: each count, the register that is newer than all others, and each Add unless a Del knows it.
func wantEval(l []api.Commit) api.State {
	knows := wantKnows(l)
	sums, sets := map[string]int{}, map[string][]api.Reg{}
	var s api.State
	for i, c := range l {
		o := c.Op
		switch o.Kind {
		case 0:
			sums[o.Key] += o.N
		case 1:
			sets[o.Key] = append(sets[o.Key], api.Reg{Key: o.Key, Elem: o.Elem, Gen: c.Gen, Ev: c.Ev})
		case 2:
			gone := false
			for j, d := range l {
				gone = gone || knows[j][i] && d.Op == del(o.Key, o.Elem)
			}
			if !gone {
				s.P = append(s.P, api.Pair{Key: o.Key, Elem: o.Elem, Ev: c.Ev})
			}
		}
	}
	for _, key := range slices.Sorted(maps.Keys(sums)) {
		if sums[key] != 0 {
			s.C = append(s.C, count(key, sums[key]))
		}
	}
	for _, key := range slices.Sorted(maps.Keys(sets)) {
		for i, r := range sets[key] {
			if !slices.ContainsFunc(slices.Delete(slices.Clone(sets[key]), i, i+1), func(q api.Reg) bool { return !newer(r, q) }) {
				s.R = append(s.R, r)
			}
		}
	}
	slices.SortFunc(s.P, func(a, b api.Pair) int {
		return cmp.Or(strings.Compare(a.Key, b.Key), strings.Compare(a.Elem, b.Elem), cmp.Compare(a.Ev.Node, b.Ev.Node), cmp.Compare(a.Ev.Seq, b.Ev.Seq))
	})
	return s
}

// wantAnc are the commits of ids, and all that these know, in order.
func wantAnc(l []api.Commit, a []api.ID) []api.Commit {
	own, knows := idsOf(l...), wantKnows(l)
	var r []api.Commit
	for j := range l {
		is := slices.Contains(a, own[j])
		for i := range l {
			is = is || slices.Contains(a, own[i]) && knows[i][j]
		}
		if is {
			r = append(r, l[j])
		}
	}
	return r
}

// some is an operation of a few keys, elements and small numbers, so that they meet often.
func some(to func(int) int) api.Op {
	key, elem := []string{"a", "aa", "b"}[to(3)], []string{"x", "xx"}[to(2)]
	switch to(9) {
	case 0, 1:
		return inc(key, []int{1, -1, 2, -3}[to(4)])
	case 2, 3:
		return set(key, elem)
	case 4, 5, 6:
		return add(key, elem)
	}
	return del(key, elem)
}

// mess is a closed list of n commits: each node knows some, and now and then all that another one does.
func mess(n, nodes int, to func(int) int) []api.Commit {
	var l []api.Commit
	knows := make([]map[int]bool, nodes)
	seq := make([]int, nodes)
	for i := range knows {
		knows[i] = map[int]bool{}
	}
	for len(l) < n {
		who := to(nodes)
		if to(2) == 0 {
			maps.Copy(knows[who], knows[to(nodes)])
			continue
		}
		seq[who] += 1 + to(3)
		// Who knows a commit knows its parents, so that the last ones are those that are no parents there.
		last := maps.Clone(knows[who])
		for i := range knows[who] {
			for j := range knows[who] {
				if slices.Contains(l[i].Parents, idOf(l[j])) {
					delete(last, j)
				}
			}
		}
		var parents []api.Commit
		for i := range last {
			parents = append(parents, l[i])
		}
		knows[who][len(l)] = true
		l = append(l, next(who, seq[who], some(to), parents...))
	}
	return l
}

// eight are of eight nodes without parents, and one behind all of them that takes away what they added.
func eight() []api.Commit {
	var l []api.Commit
	for node := range 8 {
		l = append(l, of(node, 1, 1, add("a", "x")))
	}
	return append(l, next(3, 2, del("a", "x"), l...))
}

// lists are closed, of many shapes.
func lists() [][]api.Commit {
	l := [][]api.Commit{nil, {}, {of(7, most, 1, set("k", "e"))}, eight(), eight()[:8]}
	to := chance(13)
	for n := 1; n < 40; n++ {
		l = append(l, mess(n, 1+n%8, to), mess(n, 2+n%3, to))
	}
	return l
}

// badCommits may not be.
func badCommits() []api.Commit {
	o := inc("a", 1)
	a := of(0, 1, 1, o)
	return []api.Commit{{}, of(0, 1, 1, api.Op{}), of(0, 1, 1, inc("a", 0)), of(0, 1, 1, inc("A", 1)), of(0, 1, 1, inc("a", most+1)), of(0, 1, 1, set("a", "")), of(0, 1, 1, api.Op{Kind: 4, Key: "a", Elem: "x"}), of(0, 1, 1, api.Op{Kind: -1, Key: "a", N: 1}), of(0, 1, 1, api.Op{Kind: 2, Key: "a", Elem: "x", N: 1}),
		of(8, 1, 1, o), of(-1, 1, 1, o), of(-1, 0, 1, o), of(-1, 0, 1, api.Op{}), of(0, 0, 1, o), of(0, -1, 1, o), of(0, most+1, 1, o), of(0, 1, 0, o), of(0, 1, 2, o), of(0, 1, 1, o, a), of(0, 2, most+1, o, a), of(0, 2, 2, o, a, a), of(math.MaxInt, 1, 1, o), of(math.MinInt, 1, 1, o), of(0, math.MinInt, math.MinInt, o)}
}

// notClosed are lists that are not closed, each for one cause.
func notClosed() [][]api.Commit {
	o := add("a", "x")
	a, b := of(0, 1, 1, o), of(1, 1, 1, inc("a", 1))
	left := next(0, 2, o, a)
	merge, twin := mergeOf(a, b), of(0, 1, 1, del("a", "x"))
	l := [][]api.Commit{
		// A parent that is not there, alone and among others, and where it is another one of the same event.
		{left}, {b, left}, {a, next(1, 2, o, b)}, {a, b, next(2, 1, o, a, b, of(3, 1, 1, o))}, {twin, left}, eight()[1:],
		// Two of one id, and two of one event.
		{a, a}, {a, left, left}, append(eight(), eight()[8]), {a, twin}, {a, next(0, 1, o, a)}, {a, b, next(1, 1, o, a)},
		// Two of one Node that know nothing of one another, or the lesser one the greater one.
		{a, of(0, 2, 1, o)}, {a, b, next(0, 2, o, b)}, {of(0, 2, 1, o), next(0, 1, o, of(0, 2, 1, o))}, {a, left, next(0, 3, o, a)},
		// A generation that is not the one behind its parents.
		{a, of(0, 2, 3, o, a)}, {a, left, of(0, 3, 2, o, left)}, {a, b, left, of(2, 1, 2, o, left, b)},
		// A parent that knows another one.
		{a, left, next(1, 1, o, a, left)}, {a, left, next(1, 1, o, left), next(2, 1, o, a, next(1, 1, o, left))},
		// A merge.
		{merge}, {a, b, merge}, {a, b, merge, next(2, 1, o, merge)},
	}
	// What may not be.
	for _, bad := range badCommits() {
		l = append(l, []api.Commit{bad}, []api.Commit{a, bad}, []api.Commit{a, b, left, bad})
	}
	return l
}

// is asks that an answer is the state that is wanted, that it may be, and that there is no error.
func is(t *testing.T, what string, l []api.Commit, got api.State, no api.Errno, want api.State) {
	t.Helper()
	if no != api.OK || !equal(got, want) || !state.May(got) {
		t.Errorf("%s of %v = %v, %v, want %v", what, l, got, no, want)
	}
}

// isArg asks that an answer is ErrArg, and noughts.
func isArg(t *testing.T, what string, l []api.Commit, got api.State, no api.Errno) {
	t.Helper()
	if no != api.ErrArg || !equal(got, api.State{}) {
		t.Errorf("%s of %v, which is not closed, = %v, %v", what, l, got, no)
	}
}

// at is At of a closed list.
func at(t *testing.T, l []api.Commit, a []api.ID) api.State {
	t.Helper()
	s, no := At(l, a)
	if no != api.OK || !state.May(s) {
		t.Errorf("At(%v, %x) = %v, %v", l, a, s, no)
	}
	return s
}

// inAllOrders asks for the state of a list in all its orders.
func inAllOrders(t *testing.T, l []api.Commit, want api.State) {
	t.Helper()
	if !equal(wantEval(l), want) {
		t.Fatalf("%v: the test itself is wrong", l)
	}
	for _, o := range orders(l) {
		got, no := Eval(o)
		is(t, "Eval", o, got, no, want)
	}
}

// P13.1, P2: of all shapes, in all orders.
func TestEval(t *testing.T) {
	for _, l := range lists() {
		want := wantEval(l)
		for _, o := range orders(l) {
			got, no := Eval(o)
			is(t, "Eval", o, got, no, want)
		}
	}
}

// P13.1: no commits, and one of each kind.
func TestFew(t *testing.T) {
	inAllOrders(t, nil, api.State{})
	inAllOrders(t, []api.Commit{}, api.State{})
	inAllOrders(t, []api.Commit{of(0, 1, 1, inc("a", 1))}, stateOf(count("a", 1)))
	inAllOrders(t, []api.Commit{of(7, most, 1, inc("abcdefgh", -most))}, stateOf(count("abcdefgh", -most)))
	inAllOrders(t, []api.Commit{of(0, 3, 1, set("a", "x"))}, stateOf(reg("a", "x", 1, 0, 3)))
	inAllOrders(t, []api.Commit{of(7, most, 1, set("0", "z"))}, stateOf(reg("0", "z", 1, 7, most)))
	inAllOrders(t, []api.Commit{of(5, 2, 1, add("a", "x"))}, stateOf(pair("a", "x", 5, 2)))
	inAllOrders(t, []api.Commit{of(0, 1, 1, del("a", "x"))}, api.State{})
	a := of(0, 1, 1, add("k", "e"))
	b := next(0, 2, set("k", "e"), a)
	c := next(1, 1, inc("k", 5), b)
	d := next(1, 9, del("k", "f"), c)
	inAllOrders(t, []api.Commit{a, b, c, d}, stateOf(count("k", 5), reg("k", "e", 2, 0, 2), pair("k", "e", 0, 1)))
}

// P13.1: counts.
func TestCounts(t *testing.T) {
	a, b := of(0, 1, 1, inc("a", 1)), of(1, 1, 1, inc("a", 2))
	inAllOrders(t, []api.Commit{a, b}, stateOf(count("a", 3)))
	inAllOrders(t, []api.Commit{a, next(0, 2, inc("a", 2), a)}, stateOf(count("a", 3)))
	inAllOrders(t, []api.Commit{a, b, next(2, 1, inc("a", 4), a, b)}, stateOf(count("a", 7)))
	// What two sides have of a third one counts once.
	inAllOrders(t, []api.Commit{a, next(1, 1, inc("a", 10), a), next(2, 1, inc("a", 100), a)}, stateOf(count("a", 111)))
	// To 0, by one that knows the other one and by one that does not, and then on.
	inAllOrders(t, []api.Commit{a, next(0, 2, inc("a", -1), a)}, api.State{})
	inAllOrders(t, []api.Commit{b, of(3, 1, 1, inc("a", -2))}, api.State{})
	zero := next(0, 2, inc("a", -1), a)
	inAllOrders(t, []api.Commit{a, zero, next(0, 3, inc("a", 6), zero), of(1, 1, 1, inc("b", 1)), of(2, 1, 1, inc("b", -1))}, stateOf(count("a", 6)))
	// Below 0.
	inAllOrders(t, []api.Commit{a, next(1, 1, inc("a", -4), a), of(2, 1, 1, inc("a", -5))}, stateOf(count("a", -8)))
	inAllOrders(t, []api.Commit{of(0, 1, 1, inc("a", -most)), of(1, 1, 1, inc("a", -most))}, stateOf(count("a", -2*most)))
	// Of several keys, of which one begins with another one.
	inAllOrders(t, []api.Commit{of(0, 1, 1, inc("b", 1)), of(1, 1, 1, inc("a", -1)), of(2, 1, 1, inc("aa", most)), of(3, 1, 1, inc("9", 4)), of(4, 1, 1, inc("b", 2))}, stateOf(count("9", 4), count("a", -1), count("aa", most), count("b", 3)))
	// An element is none of what a key counts.
	inAllOrders(t, []api.Commit{a, of(1, 1, 1, set("a", "a")), of(2, 1, 1, add("a", "a")), of(3, 1, 1, del("b", "a"))}, stateOf(count("a", 1), reg("a", "a", 1, 1, 1), pair("a", "a", 2, 1)))
}

// P13.1: registers.
func TestRegisters(t *testing.T) {
	a, b := of(5, 9, 1, set("a", "z")), of(2, 1, 1, set("a", "x"))
	// One knows the other one, of the same node and of another one, whatever the nodes and the elements are.
	inAllOrders(t, []api.Commit{a, next(5, 10, set("a", "y"), a)}, stateOf(reg("a", "y", 2, 5, 10)))
	inAllOrders(t, []api.Commit{a, next(0, 1, set("a", "a"), a)}, stateOf(reg("a", "a", 2, 0, 1)))
	inAllOrders(t, []api.Commit{a, next(7, 1, set("a", "z"), a)}, stateOf(reg("a", "z", 2, 7, 1)))
	// Neither knows the other one: the greater generation, and of the same one the greater node, whatever Seq and Elem are.
	inAllOrders(t, []api.Commit{a, b}, stateOf(reg("a", "z", 1, 5, 9)))
	inAllOrders(t, []api.Commit{b, of(3, 1, 1, set("a", "0"))}, stateOf(reg("a", "0", 1, 3, 1)))
	inAllOrders(t, []api.Commit{of(0, most, 1, set("a", "z")), b}, stateOf(reg("a", "x", 1, 2, 1)))
	deep := next(0, 1, set("a", "b"), b)
	inAllOrders(t, []api.Commit{a, b, deep}, stateOf(reg("a", "b", 2, 0, 1)))
	inAllOrders(t, []api.Commit{a, b, deep, next(6, 1, set("a", "a"), a)}, stateOf(reg("a", "a", 2, 6, 1)))
	// The generation counts what is of other keys, too.
	way := next(2, 2, inc("b", 1), b)
	inAllOrders(t, []api.Commit{b, way, next(1, 1, set("a", "w"), way), next(7, 1, set("a", "v"), b)}, stateOf(count("b", 1), reg("a", "w", 3, 1, 1)))
	// Of several keys, where a Del of the element that is set takes nothing away.
	c := next(3, 1, set("aa", "x"), a, b)
	inAllOrders(t, []api.Commit{a, b, c, next(4, 1, set("0", "x"), c), next(3, 2, del("aa", "x"), c)}, stateOf(reg("0", "x", 3, 4, 1), reg("a", "z", 1, 5, 9), reg("aa", "x", 2, 3, 1)))
}

// P13.1: pairs.
func TestPairs(t *testing.T) {
	a := of(0, 1, 1, add("a", "x"))
	known, unknown := next(1, 1, del("a", "x"), a), of(1, 1, 1, del("a", "x"))
	inAllOrders(t, []api.Commit{a, known}, api.State{})
	inAllOrders(t, []api.Commit{a, next(0, 2, del("a", "x"), a)}, api.State{})
	inAllOrders(t, []api.Commit{a, unknown}, stateOf(pair("a", "x", 0, 1)))
	// What is known by one parent's parent, and one that has others between.
	way := next(2, 1, inc("c", 1), a)
	inAllOrders(t, []api.Commit{a, way, next(1, 1, del("a", "x"), way)}, stateOf(count("c", 1)))
	inAllOrders(t, []api.Commit{a, way, of(3, 1, 1, inc("c", 2)), next(1, 1, del("a", "x"), way, of(3, 1, 1, inc("c", 2)))}, stateOf(count("c", 3)))
	// A Del that the Add knows takes nothing of it.
	inAllOrders(t, []api.Commit{unknown, next(0, 1, add("a", "x"), unknown)}, stateOf(pair("a", "x", 0, 1)))
	// One Del knows it, another one does not, of a lesser and of a greater generation.
	inAllOrders(t, []api.Commit{a, known, of(2, 1, 1, del("a", "x"))}, api.State{})
	aside := of(2, 1, 1, inc("c", 1))
	aside2 := next(2, 2, inc("c", 1), aside)
	inAllOrders(t, []api.Commit{a, known, aside, aside2, next(2, 3, del("a", "x"), aside2)}, stateOf(count("c", 2)))
	inAllOrders(t, []api.Commit{a, aside, aside2, next(2, 3, del("a", "x"), aside2)}, stateOf(count("c", 2), pair("a", "x", 0, 1)))
	// Added twice, of one node and of two; one of them, or both, taken away.
	twice, other := next(0, 2, add("a", "x"), a), of(3, 1, 1, add("a", "x"))
	inAllOrders(t, []api.Commit{a, twice}, stateOf(pair("a", "x", 0, 1), pair("a", "x", 0, 2)))
	inAllOrders(t, []api.Commit{a, other}, stateOf(pair("a", "x", 0, 1), pair("a", "x", 3, 1)))
	inAllOrders(t, []api.Commit{a, twice, known}, stateOf(pair("a", "x", 0, 2)))
	inAllOrders(t, []api.Commit{a, other, known}, stateOf(pair("a", "x", 3, 1)))
	inAllOrders(t, []api.Commit{a, other, next(1, 1, del("a", "x"), a, other)}, api.State{})
	inAllOrders(t, []api.Commit{a, twice, next(1, 1, del("a", "x"), twice)}, api.State{})
	// Two Dels that know one Add each, and nothing of one another.
	inAllOrders(t, []api.Commit{a, other, known, next(2, 1, del("a", "x"), other)}, api.State{})
	// Taken away and added again, and once more taken away.
	again := next(0, 2, add("a", "x"), known)
	inAllOrders(t, []api.Commit{a, known, again}, stateOf(pair("a", "x", 0, 2)))
	inAllOrders(t, []api.Commit{a, known, again, next(1, 2, del("a", "x"), again)}, api.State{})
	inAllOrders(t, []api.Commit{a, known, again, next(1, 2, del("a", "x"), known)}, stateOf(pair("a", "x", 0, 2)))
	// Dels of another key, and of another element; where key and element together read the same; of an element that is the key.
	for _, o := range []api.Op{del("b", "x"), del("a", "y"), del("aa", "x"), del("a", "xx"), del("x", "a"), del("ax", "x")} {
		inAllOrders(t, []api.Commit{a, next(1, 1, o, a)}, stateOf(pair("a", "x", 0, 1)))
	}
	long := of(0, 1, 1, add("ab", "c"))
	inAllOrders(t, []api.Commit{long, next(1, 1, del("a", "bc"), long)}, stateOf(pair("ab", "c", 0, 1)))
	// Of all elements of a key and of several keys the one alone is gone; in order by key, element, node and Seq.
	l := []api.Commit{of(6, 1, 1, add("b", "x"))}
	for i, o := range []api.Op{add("a", "y"), add("a", "x"), add("aa", "x"), del("a", "x"), add("b", "x"), add("a", "xx"), del("b", "y")} {
		l = append(l, next(5-i%2, 1+i, o, l[i]))
	}
	inAllOrders(t, l, stateOf(pair("a", "xx", 4, 6), pair("a", "y", 5, 1), pair("aa", "x", 5, 3), pair("b", "x", 5, 5), pair("b", "x", 6, 1)))
	// Eight Adds, and one Del that knows all of them, or all but one.
	inAllOrders(t, eight(), api.State{})
	inAllOrders(t, append(eight()[:8], next(3, 2, del("a", "x"), eight()[1:8]...)), stateOf(pair("a", "x", 0, 1)))
}

// The chapter's example, and the document's first two.
func TestExample(t *testing.T) {
	first := of(0, 1, 1, add("a", "x"))
	gone := next(1, 1, del("a", "x"), first)
	again := next(0, 2, add("a", "x"), first)
	inAllOrders(t, []api.Commit{first, gone, again}, stateOf(pair("a", "x", 0, 2)))
	inAllOrders(t, []api.Commit{of(0, 1, 1, inc("a", 1)), of(1, 1, 1, inc("a", 2))}, stateOf(count("a", 3)))
}

// P13.1: of what is not closed there is ErrArg, and noughts, whatever the ids are.
func TestNotClosed(t *testing.T) {
	for _, l := range notClosed() {
		if dag.Closed(l) {
			t.Fatalf("%v: the test itself is wrong", l)
		}
		for _, o := range orders(l) {
			s, no := Eval(o)
			isArg(t, "Eval", o, s, no)
			own := idsOf(o...)
			for _, a := range [][]api.ID{nil, {}, {{}}, own[:1], own} {
				s, no = At(o, a)
				isArg(t, "At", o, s, no)
			}
		}
	}
}

// asked are ids that At may be given with a list.
func asked(l []api.Commit, to func(int) int) [][]api.ID {
	own := idsOf(l...)
	falling := slices.Clone(own)
	slices.SortFunc(falling, func(a, b api.ID) int { return compare(b, a) })
	all := [][]api.ID{nil, {}, {{}}, {{31: 1}, idOf(of(7, 99, 1, inc("a", 1)))}, own, append(slices.Clone(own), own...), append([]api.ID{{}}, own...), falling}
	for range 10 {
		few := mixed(own, to)[:to(len(own)+1)]
		all = append(all, few, append(mixed(few, to), few...), append(mixed(few, to), api.ID{0: 5}))
	}
	for range min(len(own), 6) {
		a := own[to(len(own))]
		all = append(all, []api.ID{a}, []api.ID{a, a}, []api.ID{{}, a, {31: 9}, a})
	}
	return all
}

// P13.1: of all sorts of ids, in several orders of the list.
func TestAt(t *testing.T) {
	to := chance(3)
	for _, l := range lists() {
		for _, a := range asked(l, to) {
			want := wantEval(wantAnc(l, a))
			for _, o := range [][]api.Commit{l, mixed(l, to)} {
				for _, b := range [][]api.ID{a, mixed(a, to)} {
					got, no := At(o, b)
					is(t, "At", o, got, no, want)
				}
			}
		}
	}
}

// P13.1: what is known, written out.
func TestAtWritten(t *testing.T) {
	a, b := of(0, 1, 1, add("a", "x")), of(1, 1, 1, inc("c", 2))
	left, right := next(0, 2, inc("c", 1), a), next(2, 1, del("a", "x"), a)
	deep := next(0, 3, set("k", "e"), left, b)
	none := of(5, 1, 1, inc("c", 9))
	l := []api.Commit{a, b, left, right, deep}
	x, k := pair("a", "x", 0, 1), reg("k", "e", 3, 0, 3)
	for _, q := range []struct {
		a    []api.ID
		want api.State
	}{
		// No ids, and ids that are of none.
		{nil, api.State{}}, {[]api.ID{}, api.State{}}, {[]api.ID{{}}, api.State{}}, {idsOf(none), api.State{}}, {append(idsOf(none), api.ID{}, api.ID{}), api.State{}},
		{idsOf(a), stateOf(x)}, {idsOf(b), stateOf(count("c", 2))}, {idsOf(left), stateOf(count("c", 1), x)}, {idsOf(right), api.State{}}, {idsOf(deep), stateOf(count("c", 3), k, x)},
		// Twice, and beside ids that are of none.
		{idsOf(a, a), stateOf(x)}, {idsOf(left, none, left), stateOf(count("c", 1), x)}, {append(idsOf(b, b, b), api.ID{}), stateOf(count("c", 2))},
		// That know one another, and that do not; all.
		{idsOf(a, left), stateOf(count("c", 1), x)}, {idsOf(deep, a, b, left), stateOf(count("c", 3), k, x)}, {idsOf(a, b), stateOf(count("c", 2), x)}, {idsOf(left, right), stateOf(count("c", 1))}, {idsOf(a, right), api.State{}}, {idsOf(deep, right), stateOf(count("c", 3), k)}, {idsOf(l...), stateOf(count("c", 3), k)},
	} {
		for _, o := range orders(l) {
			for _, ids := range [][]api.ID{q.a, mixed(q.a, chance(5)), mixed(q.a, chance(6))} {
				got, no := At(o, ids)
				is(t, "At", o, got, no, q.want)
			}
		}
	}
	got, no := At(nil, idsOf(a))
	is(t, "At", nil, got, no, api.State{})
}

// checkTwo asks that the state of two lists of ids together is the merge of three.
func checkTwo(t *testing.T, l []api.Commit, a, b []api.ID) {
	t.Helper()
	base := at(t, l, front.Base(l, a, b))
	both := at(t, l, append(slices.Clone(a), b...))
	for _, x := range [][2]api.State{{at(t, l, a), at(t, l, b)}, {at(t, l, b), at(t, l, a)}} {
		want, no := state.Merge(base, x[0], x[1])
		if no != api.OK || !equal(both, want) {
			t.Errorf("At of %x and %x in %v is %v, their merge %v, %v", a, b, l, both, want, no)
		}
	}
}

// P13.2, P2: the state of two lists of ids.
func TestTwo(t *testing.T) {
	to := chance(17)
	for _, l := range lists() {
		all := asked(l, to)
		for i, a := range all {
			checkTwo(t, l, a, all[(i*5+1)%len(all)])
		}
		checkTwo(t, l, all[to(len(all))], idsOf(l...))
	}
}

// P13.2: where two have nothing in common, where one knows all of the other one, and where both come from a third one.
func TestTwoWritten(t *testing.T) {
	a, b := of(0, 1, 1, add("a", "x")), of(1, 1, 1, add("a", "x"))
	left, right := next(0, 2, del("a", "x"), a), next(2, 1, inc("c", 2), a, b)
	deep := next(0, 3, add("a", "x"), left)
	end := next(4, 1, inc("c", 5), deep, right)
	l := []api.Commit{a, b, left, right, deep, end}
	for _, q := range []struct {
		a, b []api.ID
		want api.State
	}{
		// Nothing in common, and nothing at all.
		{nil, nil, api.State{}}, {nil, idsOf(a), stateOf(pair("a", "x", 0, 1))}, {idsOf(a), idsOf(b), stateOf(pair("a", "x", 0, 1), pair("a", "x", 1, 1))}, {idsOf(left), idsOf(b), stateOf(pair("a", "x", 1, 1))}, {idsOf(deep), idsOf(b), stateOf(pair("a", "x", 0, 3), pair("a", "x", 1, 1))},
		// One knows all of the other one, or is it.
		{idsOf(a), idsOf(left), api.State{}}, {idsOf(b), idsOf(right), stateOf(count("c", 2), pair("a", "x", 0, 1), pair("a", "x", 1, 1))}, {idsOf(a, b), idsOf(right), stateOf(count("c", 2), pair("a", "x", 0, 1), pair("a", "x", 1, 1))}, {idsOf(end), idsOf(left, b), stateOf(count("c", 7), pair("a", "x", 0, 3), pair("a", "x", 1, 1))}, {idsOf(left), idsOf(left), api.State{}},
		// Both come from a third one, or from several.
		{idsOf(left), idsOf(right), stateOf(count("c", 2), pair("a", "x", 1, 1))}, {idsOf(deep), idsOf(right), stateOf(count("c", 2), pair("a", "x", 0, 3), pair("a", "x", 1, 1))}, {idsOf(left, b), idsOf(right), stateOf(count("c", 2), pair("a", "x", 1, 1))},
	} {
		for _, o := range orders(l) {
			checkTwo(t, o, q.a, q.b)
			got, no := At(o, append(slices.Clone(q.a), q.b...))
			is(t, "At", o, got, no, q.want)
		}
	}
}

// P13.2: the state of a commit and all that it knows.
func TestDo(t *testing.T) {
	to := chance(23)
	for _, l := range lists() {
		for _, c := range l {
			o := mixed(l, to)
			want, no := state.Do(at(t, o, c.Parents), c.Op, c.Ev, c.Gen)
			if got := at(t, o, idsOf(c)); no != api.OK || !equal(got, want) {
				t.Errorf("At of %v in %v = %v, Do %v, %v", c, l, got, want, no)
			}
		}
	}
}

// steps has what ids, none of which knows another one, come to, by Do and by merges of three alone.
type steps struct {
	l    []api.Commit
	done map[string]api.State
}

func (s steps) state(t *testing.T, ids []api.ID) api.State {
	var name []byte
	for _, a := range ids {
		name = append(name, a[:]...)
	}
	if r, is := s.done[string(name)]; is {
		return r
	}
	r, no := api.State{}, api.OK
	switch len(ids) {
	case 0:
	case 1:
		c, _ := dag.Find(s.l, ids[0])
		r, no = state.Do(s.state(t, c.Parents), c.Op, c.Ev, c.Gen)
	default:
		base := front.Front(dag.Part(s.l, front.Base(s.l, ids[:1], ids[1:])))
		r, no = state.Merge(s.state(t, base), s.state(t, ids[:1]), s.state(t, ids[1:]))
	}
	if no != api.OK {
		t.Fatalf("%x: %v", ids, no)
	}
	s.done[string(name)] = r
	return r
}

// P13.2, P2: step by step.
func TestSteps(t *testing.T) {
	for _, l := range lists() {
		s, no := Eval(l)
		is(t, "Eval", l, s, no, steps{l, map[string]api.State{}}.state(t, front.Front(l)))
	}
}

// spoil changes all that a list has, parents too, and spoilState all that a state has.
func spoil(l []api.Commit) {
	for i := range l {
		for j := range l[i].Parents {
			l[i].Parents[j][5]++
		}
		l[i].Parents = append(l[i].Parents, api.ID{9})
		l[i].Gen, l[i].Ev.Seq, l[i].Op = 99, -7, del("q", "q")
	}
}

func spoilState(s api.State) {
	clear(s.C)
	clear(s.R)
	clear(s.P)
	_, _, _ = append(s.C, count("z", 1)), append(s.R, reg("z", "z", 1, 1, 1)), append(s.P, pair("z", "z", 1, 1))
}

// R3, R5: what is answered is new, what is handed in stays, also behind its end, and the next answer is the same.
func TestOwn(t *testing.T) {
	to := chance(29)
	one := []api.Commit{of(0, 1, 1, inc("a", 1)), of(1, 1, 1, set("a", "x")), of(2, 1, 1, add("a", "x"))}
	all := append(lists(), one, one[:1], one[1:2], one[2:])
	for _, l := range all {
		own := idsOf(l...)
		for _, f := range []func(l []api.Commit, a []api.ID) (api.State, api.Errno){
			func(l []api.Commit, _ []api.ID) (api.State, api.Errno) { return Eval(l) },
			At,
		} {
			room, a := append(clone(mixed(l, to)), of(6, 6, 6, inc("a", 1)), of(7, 7, 7, inc("a", 1))), append(mixed(own, to), api.ID{1}, api.ID{2})
			keep, keepIds := clone(room), slices.Clone(a)
			got, no := f(room[:len(l)], a[:len(l)])
			want := cloneState(got)
			if no != api.OK || !same(room, keep) || !slices.Equal(a, keepIds) {
				t.Errorf("%v: %v, or what was handed in is changed", l, no)
			}
			spoil(room)
			clear(a)
			if !equal(got, want) {
				t.Errorf("%v: the answer changes with what was handed in", l)
			}
			room, a = clone(keep), slices.Clone(keepIds)
			got, _ = f(room[:len(l)], a[:len(l)])
			spoilState(got)
			if !same(room, keep) || !slices.Equal(a, keepIds) {
				t.Errorf("%v: what was handed in changes with the answer", l)
			}
			if again, _ := f(room[:len(l)], a[:len(l)]); !equal(again, want) {
				t.Errorf("%v: another answer the next time", l)
			}
		}
	}
}

// P13.1, P1: a line up to the greatest generation, and one commit beside it: no merge stands behind both, but their state is there.
func TestGreatest(t *testing.T) {
	l := make([]api.Commit, 0, most+1)
	l = append(l, of(1, 1, 1, inc("a", 7)))
	var parents []api.ID
	for i := 1; i <= most; i++ {
		c := api.Commit{Ev: api.Event{Node: 0, Seq: i}, Gen: i, Parents: parents, Op: inc("a", 2)}
		if i%1000 == 1 {
			c.Op = add("a", "x")
		}
		if i%3000 == 2000 {
			c.Op = del("a", "x")
		}
		parents = []api.ID{idOf(c)}
		l = append(l, c)
	}
	s, no := Eval(l)
	// The last Del is the one of 1046000, as 1049000 is above 2^20.
	is(t, "Eval", nil, s, no, stateOf(count("a", 7+2*(most-1049-349)), pair("a", "x", 0, 1046001), pair("a", "x", 0, 1047001), pair("a", "x", 0, 1048001)))
}

// P1: long lists, of many keys, and of Dels of many elements, are answered too.
func TestLong(t *testing.T) {
	name := func(i int) string {
		return string([]byte{'a' + byte(i/676%26), 'a' + byte(i/26%26), 'a' + byte(i%26)})
	}
	const n = 12000
	var l []api.Commit
	var want api.State
	for i := range n {
		o := []api.Op{add("k", name(i/4)), del("k", name(i/4)), set(name(i/4), "x"), inc(name(i/4), 3)}[i%4]
		if i == 0 {
			l = append(l, of(0, 1, 1, o))
		} else {
			l = append(l, next(i%3, i+1, o, l[i-1]))
		}
		if i%4 == 2 {
			want.R = append(want.R, reg(name(i/4), "x", i+1, i%3, i+1))
			want.C = append(want.C, count(name(i/4), 3))
		}
	}
	side := next(5, 1, add("k", "x"), l[n/2])
	want.P = []api.Pair{pair("k", "x", 5, 1)}
	s, no := Eval(mixed(append(slices.Clone(l), side), chance(31)))
	if no != api.OK || !equal(s, want) {
		t.Errorf("of a long list there are %d counts, %d registers, %v, %v", len(s.C), len(s.R), s.P, no)
	}
	s, no = At(append(l, side), idsOf(side))
	if no != api.OK || len(s.C) != n/8 || len(s.R) != n/8 || !slices.Contains(s.P, want.P[0]) {
		t.Errorf("of half of it there are %d counts, %d registers, %v, %v", len(s.C), len(s.R), s.P, no)
	}
}

// P1, R1: every call ends, none panics, and each answers as the chapter says, whatever it is given.
func TestAny(t *testing.T) {
	to := chance(19)
	odd := []int{0, 1, -1, 2, 3, 7, 8, 9, most, most + 1, 1 << 32, math.MaxInt, math.MinInt}
	texts := []string{"", "a", "A", "abcdefgh", "abcdefghi", "\x00\xff"}
	number := func() int {
		if to(6) == 0 {
			return odd[to(len(odd))]
		}
		return 1 + to(3)
	}
	closed := 0
	for range 20000 {
		var l []api.Commit
		a := []api.ID{{}}
		for range to(5) {
			c := api.Commit{Ev: api.Event{Node: number(), Seq: number()}, Gen: 1, Op: api.Op{Kind: number(), Key: texts[to(6)], Elem: texts[to(6)], N: number()}}
			if to(8) > 0 {
				c.Op = some(to)
			}
			if to(9) == 0 {
				c.Gen, c.Parents = number(), append(c.Parents, []api.ID{{}, {31: byte(to(9))}}[to(2)])
			}
			for _, d := range l {
				if to(3) == 0 {
					c.Parents, c.Gen = append(c.Parents, idOf(d)), max(c.Gen, d.Gen+1)
				}
			}
			slices.SortFunc(c.Parents, compare)
			l = append(l, c)
			if to(2) == 0 {
				a = append(append(a, c.Parents...), idOf(c))
			}
		}
		keep, keepIds := clone(l), slices.Clone(a)
		s, no := Eval(l)
		r, noAt := At(l, a)
		if dag.Closed(l) {
			closed += min(len(l), 1)
			is(t, "Eval", l, s, no, wantEval(l))
			is(t, "At", l, r, noAt, wantEval(wantAnc(l, a)))
		} else {
			isArg(t, "Eval", l, s, no)
			isArg(t, "At", l, r, noAt)
		}
		if !same(l, keep) || !slices.Equal(a, keepIds) {
			t.Errorf("%v, %x: what was handed in is %v, %x", keep, keepIds, l, a)
		}
	}
	if closed < 1000 {
		t.Errorf("only %d closed ones", closed)
	}
}

// P1: parents without end, in a list that is not closed.
func TestWide(t *testing.T) {
	many := make([]api.ID, 100000)
	for i := range many {
		many[i] = api.ID{0: byte(i >> 16), 1: byte(i >> 8), 2: byte(i)}
	}
	var l []api.Commit
	for i := range 10000 {
		l = append(l, api.Commit{Ev: api.Event{Node: 0, Seq: i + 1}, Gen: i + 2, Parents: many, Op: inc("a", 1)})
	}
	s, no := Eval(l)
	isArg(t, "Eval", nil, s, no)
	s, no = At(l, many)
	isArg(t, "At", nil, s, no)
	s, no = At([]api.Commit{of(0, 1, 1, inc("a", 1))}, many)
	is(t, "At", nil, s, no, api.State{})
}
