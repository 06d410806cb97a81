package wait

import (
	"bytes"
	"crypto/sha256"
	"math"
	"slices"
	"testing"

	"anabranch/api"
	"anabranch/commit"
)

const most = 1048576

// id is of two bytes alone, the first one and the last one.
func id(first, last byte) api.ID { return api.ID{0: first, 31: last} }

// some are n ids that rise.
func some(n int) []api.ID {
	var l []api.ID
	for i := range n {
		l = append(l, id(byte(1+i/3), byte(i%3)))
	}
	return l
}

func inc(n int) api.Op { return api.Op{Kind: 0, Key: "a", N: n} }

// after is a commit of an event, behind ids, of generation 2; without any of generation 1.
func after(node, seq int, parents ...api.ID) api.Commit {
	c := api.Commit{Ev: api.Event{Node: node, Seq: seq}, Gen: 1, Parents: slices.Clone(parents), Op: inc(1)}
	if len(parents) > 0 {
		c.Gen = 2
	}
	slices.SortFunc(c.Parents, compare)
	return c
}

// next is a commit of an event, behind others, of the generation that stands behind these.
func next(node, seq int, l ...api.Commit) api.Commit {
	c := after(node, seq, idsOf(l...)...)
	for _, p := range l {
		c.Gen = max(c.Gen, p.Gen+1)
	}
	return c
}

// mergeOf is a merge of ids.
func mergeOf(gen int, parents ...api.ID) api.Commit {
	c := after(-1, 0, parents...)
	c.Gen, c.Op = gen, api.Op{}
	return c
}

// with is a commit of another operation, asOf one of other parents, in just that order, inGen one of another generation.
func with(c api.Commit, o api.Op) api.Commit {
	c.Op = o
	return c
}

func asOf(c api.Commit, parents ...api.ID) api.Commit {
	c.Parents = parents
	return c
}

func inGen(c api.Commit, gen int) api.Commit {
	c.Gen = gen
	return c
}

func compare(a, b api.ID) int { return bytes.Compare(a[:], b[:]) }

// idOf is the SHA-256 of a commit's bytes, which it must have.
func idOf(c api.Commit) api.ID {
	b, no := commit.Put(c)
	if no != api.OK {
		panic(c)
	}
	return sha256.Sum256(b)
}

func idsOf(l ...api.Commit) []api.ID {
	var a []api.ID
	for _, c := range l {
		a = append(a, idOf(c))
	}
	return a
}

func clone(l []api.Commit) []api.Commit {
	l = slices.Clone(l)
	for i := range l {
		l[i].Parents = slices.Clone(l[i].Parents)
	}
	return l
}

func equal(a, b api.Commit) bool {
	return a.Ev == b.Ev && a.Gen == b.Gen && a.Op == b.Op && slices.Equal(a.Parents, b.Parents)
}

func same(a, b []api.Commit) bool { return slices.EqualFunc(a, b, equal) }

// chance answers numbers that seem random, the same ones each time.
func chance(seed uint32) func(int) int {
	return func(n int) int {
		seed = seed*1664525 + 1013904223
		return int(seed>>8) % n
	}
}

func mixed[T any](l []T, to func(int) int) []T {
	l = slices.Clone(l)
	for i := range l {
		j := i + to(len(l)-i)
		l[i], l[j] = l[j], l[i]
	}
	return l
}

// orders are all orders of a short list, and some of a longer one.
func orders[T any](l []T) [][]T {
	if len(l) > 4 {
		back := slices.Clone(l)
		slices.Reverse(back)
		all, to := [][]T{l, back}, chance(uint32(len(l)))
		for range 10 {
			all = append(all, mixed(l, to))
		}
		return all
	}
	all := [][]T{{}}
	for _, x := range l {
		var more [][]T
		for _, o := range all {
			for i := range len(o) + 1 {
				more = append(more, slices.Insert(slices.Clone(o), i, x))
			}
		}
		all = more
	}
	return all
}

// without is a list without the one at a place.
func without[T any](l []T, i int) []T { return slices.Concat(l[:i], l[i+1:]) }

// twice is a list with each of its own once more, behind all.
func twice[T any](l []T) []T { return slices.Concat(l, l) }

// row are n commits that may be, none the same as another one: without parents, with up to eight, and now and then behind one of the row.
func row(n int) []api.Commit {
	var l []api.Commit
	for i := range n {
		c := after(i%8, 1+i/3, some(i%9)...)
		if i%4 == 3 {
			c = next(i%8, i, l[i-2], l[i-1])
		}
		l = append(l, with(c, operations()[i%5]))
	}
	return l
}

// operations are some that may be.
func operations() []api.Op {
	return []api.Op{inc(1), inc(-most), {Kind: 1, Key: "b", Elem: "x"}, {Kind: 2, Key: "abcdefgh", Elem: "abcdefgh"}, {Kind: 3, Key: "a", Elem: "y"}}
}

// good are commits that may be, at the edges.
func good() []api.Commit {
	a, b := id(1, 0), id(2, 0)
	l := []api.Commit{after(0, 1), after(7, most), after(3, 1, a), after(3, most, a, b), after(5, 2, some(8)...), after(5, 2, some(7)...), inGen(after(6, 6, a), most), inGen(after(6, 6, some(8)...), most), after(1, 1, api.ID{}), after(1, 1, api.ID{}, id(0, 1)), after(1, 1, id(255, 254), id(255, 255))}
	for _, o := range append(operations(), inc(most), inc(-1), api.Op{Kind: 1, Key: "z9", Elem: "01234567"}) {
		l = append(l, with(after(2, 2), o), with(after(2, 2, b), o))
	}
	return l
}

// merges may be.
func merges() []api.Commit {
	return []api.Commit{mergeOf(2, some(2)...), mergeOf(2, some(8)...), mergeOf(most, some(3)...), mergeOf(2, api.ID{}, id(0, 1)), mergeOf(2, idsOf(after(0, 1), after(1, 1))...)}
}

// bad are commits that may not be, each for one cause.
func bad() []api.Commit {
	a, b := id(1, 0), id(2, 0)
	root, child := after(0, 1), after(0, 1, a)
	l := []api.Commit{
		{},
		// An event that may not be.
		after(8, 1), after(-1, 1), after(-1, 0), after(-2, 1), after(0, 0), after(0, -1), after(0, most+1), after(8, 1, a), after(-1, 1, a, b), after(0, 0, a), after(0, most+1, a), after(math.MaxInt, 1), after(math.MinInt, 1), after(0, math.MinInt), after(0, math.MaxInt), after(1<<32, 1),
		// A generation that may not be, or is not that of so many parents.
		inGen(root, 0), inGen(root, -1), inGen(root, 2), inGen(root, math.MaxInt), inGen(root, math.MinInt), inGen(child, 0), inGen(child, 1), inGen(child, -1), inGen(child, most+1), inGen(child, math.MaxInt), inGen(child, math.MinInt), inGen(child, 1<<32+2),
		// Parents that are too many, or do not rise.
		after(0, 1, some(9)...), after(0, 1, some(40)...), asOf(child, a, a), asOf(child, b, a), asOf(child, id(1, 1), id(1, 0)), asOf(child, a, b, b), asOf(child, a, b, id(1, 5)), asOf(child, slices.Concat(some(7), some(1))...),
		// Merges but for one thing.
		mergeOf(2, a), mergeOf(1, a, b), mergeOf(1), mergeOf(2), mergeOf(0, a, b), mergeOf(most+1, a, b), mergeOf(2, some(9)...), asOf(mergeOf(2, a, b), a, a), asOf(mergeOf(2, a, b), b, a), with(mergeOf(2, a, b), inc(1)), with(mergeOf(2, a, b), api.Op{Key: "a"}), with(mergeOf(2, a, b), api.Op{Kind: 1}), with(mergeOf(2, a, b), api.Op{N: 1}), with(mergeOf(2, a, b), api.Op{Elem: "x"}), with(after(-2, 0, a, b), api.Op{}), with(after(0, 0, a, b), api.Op{}), with(after(-1, 1, a, b), api.Op{}), with(after(-1, -1, a, b), api.Op{}),
	}
	// An operation that may not be.
	for _, o := range []api.Op{{}, {Kind: 4, Key: "a", N: 1}, {Kind: 4, Key: "a", Elem: "x"}, {Kind: -1, Key: "a", N: 1}, {Kind: math.MinInt, Key: "a", N: 1}, inc(0), inc(most + 1), inc(-most - 1), inc(math.MinInt), {Kind: 0, Key: "a", Elem: "x", N: 1}, {Kind: 0, N: 1}, {Kind: 0, Key: "abcdefghi", N: 1}, {Kind: 0, Key: "A", N: 1}, {Kind: 1, Elem: "x"}, {Kind: 1, Key: "a"}, {Kind: 1, Key: "a", Elem: "x", N: 1}, {Kind: 2, Key: "a", Elem: "x", N: -1}, {Kind: 2, Key: "a", Elem: "{"}, {Kind: 3, Key: "a", Elem: "abcdefghi"}, {Kind: 3, Key: "é", Elem: "x"}} {
		l = append(l, with(root, o), with(child, o), with(after(7, 7, a, b), o))
	}
	return l
}

// few and less are as much of lists as can be told.
func few(l []api.Commit) []api.Commit {
	l = clone(l[:min(len(l), 12)])
	for i := range l {
		l[i].Parents = less(l[i].Parents)
	}
	return l
}

func less(a []api.ID) []api.ID { return a[:min(len(a), 12)] }

// isPut asks for what waits once one was put, and that all that was handed in is as it was.
func isPut(t *testing.T, l []api.Commit, c api.Commit, want []api.Commit) {
	t.Helper()
	keepL, keepC, want := clone(l), clone([]api.Commit{c}), clone(want)
	if got := Put(l, c); !same(got, want) {
		t.Errorf("Put of %v into %d, %v, is %d, %v, want %d, %v", few([]api.Commit{c}), len(l), few(l), len(got), few(got), len(want), few(want))
	}
	if !same(l, keepL) || !equal(c, keepC[0]) {
		t.Errorf("Put of %v into %v: what was handed in is changed", few(keepC), few(keepL))
	}
}

// isReady asks for the one at a place as the first that is ready; below 0: for none.
func isReady(t *testing.T, l []api.Commit, have []api.ID, at int) {
	t.Helper()
	keepL, keepHave := clone(l), slices.Clone(have)
	c, others, is := Ready(l, have)
	switch {
	case at < 0 && (is || !equal(c, api.Commit{}) || !same(others, keepL)):
		t.Errorf("Ready(%v, %x) is %v, %v, %v, want noughts, all and false", few(l), less(have), c.Ev, few(others), is)
	case at >= 0 && (!is || !equal(c, keepL[at]) || !same(others, without(keepL, at))):
		t.Errorf("Ready(%v, %x) is %v, %v, %v, want the one at %d, the others and true", few(l), less(have), c.Ev, few(others), is, at)
	}
	if !same(l, keepL) || !slices.Equal(have, keepHave) {
		t.Errorf("Ready(%v, %x): what was handed in is changed", few(keepL), less(keepHave))
	}
}

// isMissing asks for ids, which stand there as they are to be answered; what else there is comes in whatever order, and twice.
func isMissing(t *testing.T, l []api.Commit, have []api.ID, want ...api.ID) {
	t.Helper()
	for _, h := range append(orders(have), twice(have), append(slices.Clone(have), id(77, 77), api.ID{0: 9, 5: 9})) {
		for _, o := range append(orders(l), twice(l)) {
			keepL, keepHave := clone(o), slices.Clone(h)
			if got := Missing(o, h); !slices.Equal(got, want) {
				t.Errorf("Missing(%v, %x) is %x, want %x", o, h, got, want)
			}
			if !same(o, keepL) || !slices.Equal(h, keepHave) {
				t.Errorf("Missing(%v, %x): what was handed in is changed", keepL, keepHave)
			}
		}
	}
}

// wantPut, wantReady and wantMissing do what the chapter's words say.
func wantPut(l []api.Commit, c api.Commit) []api.Commit {
	if !commit.May(c) || commit.Merge(c) {
		return l
	}
	for _, x := range l {
		if equal(x, c) {
			return l
		}
	}
	l = append(slices.Clone(l), c)
	for len(l) > 8 {
		l = l[1:]
	}
	return l
}

func wantReady(l []api.Commit, have []api.ID) int {
	for i, c := range l {
		there := 0
		for _, p := range c.Parents {
			if slices.Contains(have, p) {
				there++
			}
		}
		if there == len(c.Parents) {
			return i
		}
	}
	return -1
}

func wantMissing(l []api.Commit, have []api.ID) []api.ID {
	var own, want []api.ID
	for _, c := range l {
		if commit.May(c) {
			own = append(own, idOf(c))
		}
	}
	for _, c := range l {
		for _, p := range c.Parents {
			if !slices.Contains(have, p) && !slices.Contains(own, p) && !slices.Contains(want, p) {
				want = append(want, p)
			}
		}
	}
	slices.SortFunc(want, compare)
	return want
}

// isAsWanted asks what the chapter's words come to.
func isAsWanted(t *testing.T, l []api.Commit, c api.Commit, have []api.ID) {
	t.Helper()
	isPut(t, l, c, wantPut(l, c))
	isReady(t, l, have, wantReady(l, have))
	if got, want := Missing(l, have), wantMissing(l, have); !slices.Equal(got, want) {
		t.Errorf("Missing(%v, %x) is %x, want %x", l, have, got, want)
	}
}

// The tests lean on these being what they are called.
func TestLists(t *testing.T) {
	l := slices.Concat(good(), row(100))
	for _, c := range l {
		if !commit.May(c) || commit.Merge(c) {
			t.Errorf("%v is not good", c)
		}
	}
	for _, c := range merges() {
		if !commit.Merge(c) {
			t.Errorf("%v is no merge", c)
		}
	}
	for _, c := range bad() {
		if commit.May(c) {
			t.Errorf("%v is not bad", c)
		}
	}
	for i, c := range row(100) {
		if slices.ContainsFunc(row(100)[:i], func(x api.Commit) bool { return equal(x, c) }) {
			t.Errorf("%v stands twice in a row", c)
		}
	}
}

// The chapter's example.
func TestExample(t *testing.T) {
	a := id(1, 0)
	c := after(0, 1, a)
	l := Put(nil, c)
	if !same(l, []api.Commit{c}) {
		t.Errorf("what waits is %v", l)
	}
	if got, others, is := Ready(l, nil); is || !equal(got, api.Commit{}) || !same(others, l) {
		t.Errorf("%v does not wait, but %v", got, others)
	}
	if m := Missing(l, nil); !slices.Equal(m, []api.ID{a}) {
		t.Errorf("%x is missing", m)
	}
	// And once that is there, nothing waits.
	if got, others, is := Ready(l, []api.ID{a}); !is || !equal(got, c) || len(others) != 0 {
		t.Errorf("%v waits, %v, %v", others, got, is)
	}
}

// P16.1: as many as wait, and one more, of which the first ones are gone, as many as there are above eight.
func TestPut(t *testing.T) {
	all := row(100)
	for n := range 99 {
		isPut(t, all[:n], all[n], all[max(0, n-7):n+1])
		isPut(t, clone(all[:n]), all[99], append(clone(all[max(0, n-7):n]), all[99]))
	}
	for _, x := range []struct{ n, from int }{{0, 0}, {1, 0}, {6, 0}, {7, 0}, {8, 1}, {9, 2}, {10, 3}, {16, 9}, {17, 10}, {64, 57}, {98, 91}} {
		got := Put(all[:x.n], all[x.n])
		if !same(got, all[x.from:x.n+1]) || len(got) != min(x.n+1, 8) {
			t.Errorf("one more than %d are %v", x.n, got)
		}
	}
	// One behind the other, from nothing on.
	var l []api.Commit
	for i, c := range all {
		l = Put(l, c)
		if !same(l, all[max(0, i-7):i+1]) {
			t.Fatalf("once %d were put, %v wait", i+1, l)
		}
	}
}

// P16.1: whatever may be is put, into nothing, and behind few and many.
func TestPutGood(t *testing.T) {
	for _, c := range good() {
		isPut(t, nil, c, []api.Commit{c})
		isPut(t, []api.Commit{}, c, []api.Commit{c})
		for _, n := range []int{1, 3, 7, 8, 9, 20} {
			l := slices.DeleteFunc(row(n+4), func(x api.Commit) bool { return equal(x, c) })[:n]
			isPut(t, l, c, append(clone(l[max(0, n-7):]), c))
		}
		// What waits is not asked for whether it may, or is a merge.
		l := slices.Concat(bad()[:3], merges()[:2])
		isPut(t, l, c, append(clone(l), c))
		isPut(t, bad(), c, append(bad()[len(bad())-7:], c))
	}
}

// P16.1: one that may not be, for each cause, and a merge: all that wait stay, also more than eight.
func TestPutBad(t *testing.T) {
	for _, c := range append(bad(), merges()...) {
		for _, n := range []int{0, 1, 2, 3, 7, 8, 9, 10, 17, 40} {
			l := row(n)
			isPut(t, l, c, l)
			isPut(t, append(clone(l), c), c, append(clone(l), c))
			isPut(t, append([]api.Commit{c}, l...), c, append([]api.Commit{c}, l...))
		}
	}
	for n := range 12 {
		isPut(t, bad()[:n], mergeOf(2, some(2)...), bad()[:n])
		isPut(t, merges()[:n%4], api.Commit{}, merges()[:n%4])
	}
}

// P16.1: one that is the same as one of these, wherever it stands: all that wait stay, also more than eight.
func TestPutSame(t *testing.T) {
	for _, n := range []int{1, 2, 3, 5, 7, 8, 9, 10, 17, 30} {
		l := row(n)
		for i := range l {
			isPut(t, l, clone(l)[i], l)
			// One that stands twice, at whatever places.
			for _, j := range []int{0, i, n / 2, n} {
				two := slices.Insert(clone(l), j, l[i])
				isPut(t, two, clone(l)[i], two)
			}
		}
	}
	// A list of parents without elements may be nil or empty.
	none, empty := asOf(after(0, 1)), asOf(after(0, 1), []api.ID{}...)
	empty.Parents = []api.ID{}
	isPut(t, []api.Commit{none}, empty, []api.Commit{none})
	isPut(t, []api.Commit{empty}, none, []api.Commit{none})
	// One that waits twice, and another one that is put: both stay, or go first.
	c, d := after(1, 1, id(1, 0)), after(2, 1, id(1, 0))
	isPut(t, []api.Commit{c, c}, d, []api.Commit{c, c, d})
	isPut(t, slices.Concat([]api.Commit{c, c}, row(6)), d, slices.Concat([]api.Commit{c}, row(6), []api.Commit{d}))
}

// almost are those that may be, and are the same but for one field, one parent, or one of a parent's bytes.
func almost(c api.Commit) []api.Commit {
	l := []api.Commit{inGen(c, c.Gen+1), with(c, api.Op{Kind: 2, Key: "b", Elem: "x"}), with(c, api.Op{Kind: 3, Key: "b", Elem: "x"}), with(c, api.Op{Kind: 1, Key: "c", Elem: "x"}), with(c, api.Op{Kind: 1, Key: "b", Elem: "y"}), with(c, api.Op{Kind: 1, Key: "b", Elem: "xx"}), with(c, api.Op{Kind: 1, Key: "x", Elem: "b"}), with(c, inc(1)), with(c, inc(-1)), with(c, inc(2))}
	for _, ev := range []api.Event{{Node: c.Ev.Node + 1, Seq: c.Ev.Seq}, {Node: c.Ev.Node - 1, Seq: c.Ev.Seq}, {Node: c.Ev.Node, Seq: c.Ev.Seq + 1}, {Node: c.Ev.Node, Seq: c.Ev.Seq - 1}, {Node: c.Ev.Seq, Seq: c.Ev.Node}} {
		x := c
		x.Ev = ev
		l = append(l, x)
	}
	for i := range c.Parents {
		l = append(l, asOf(c, without(c.Parents, i)...))
		for at := range 32 {
			p := slices.Clone(c.Parents)
			p[i][at] ^= 1
			l = append(l, asOf(c, p...))
		}
	}
	for _, more := range []api.ID{{}, id(0, 1), id(1, 9), id(255, 255)} {
		x := asOf(c, append(slices.Clone(c.Parents), more)...)
		slices.SortFunc(x.Parents, compare)
		l = append(l, x)
	}
	return l
}

// P16.1: one that is almost the same as one that waits is put.
func TestPutAlmost(t *testing.T) {
	p := []api.ID{id(10, 10), id(20, 20), id(30, 30), id(40, 40)}
	c := with(after(3, 5, p...), api.Op{Kind: 1, Key: "b", Elem: "x"})
	count := 0
	for _, x := range almost(c) {
		if !commit.May(x) || equal(x, c) {
			t.Fatalf("%v is not almost %v", x, c)
		}
		count++
		isPut(t, []api.Commit{c}, x, []api.Commit{c, x})
		isPut(t, []api.Commit{x}, c, []api.Commit{x, c})
		l := slices.Insert(row(5), 2, c)
		isPut(t, l, x, append(clone(l), x))
		l = append(row(7), c)
		isPut(t, l, x, append(clone(l[1:]), x))
		// With that one there, too, all stay.
		isPut(t, append(clone(l), x), x, append(clone(l), x))
	}
	if count < 100 {
		t.Errorf("only %d are almost the same", count)
	}
	// Counts, where a number alone is another one.
	for _, n := range []int{1, -1, 2, most, -most} {
		for _, m := range []int{1, -1, 2, most, -most} {
			a, b := with(c, inc(n)), with(c, inc(m))
			if n != m {
				isPut(t, []api.Commit{a}, b, []api.Commit{a, b})
			} else {
				isPut(t, []api.Commit{a}, b, []api.Commit{a})
			}
		}
	}
	// What waits, and may not be, is almost the same, too.
	for _, x := range []api.Commit{inGen(c, 0), asOf(c, p[1], p[0], p[2], p[3]), asOf(c, twice(p)...), with(c, api.Op{Kind: 1, Key: "b", Elem: "x", N: 1})} {
		isPut(t, []api.Commit{x}, c, []api.Commit{x, c})
	}
}

// P16.2: none that wait, nothing there, and one that waits for up to eight.
func TestReady(t *testing.T) {
	a, b := id(1, 0), id(2, 0)
	for _, have := range [][]api.ID{nil, {}, {a}, {a, b}, some(20)} {
		isReady(t, nil, have, -1)
		isReady(t, []api.Commit{}, have, -1)
		// Without parents it need not wait.
		isReady(t, []api.Commit{after(0, 1)}, have, 0)
		isReady(t, []api.Commit{{Parents: []api.ID{}}}, have, 0)
		isReady(t, []api.Commit{after(0, 1, id(99, 0)), after(0, 1), after(1, 1)}, have, 1)
	}
	for n := 1; n <= 8; n++ {
		all := some(n)
		l := []api.Commit{after(0, 1, all...)}
		isReady(t, l, nil, -1)
		isReady(t, l, []api.ID{id(1, 77), {}, {0: 1, 30: 1}, {0: 255}}, -1)
		for i := range n {
			// All but one are there.
			isReady(t, l, without(all, i), -1)
			isReady(t, l, twice(without(all, i)), -1)
			isReady(t, l, append(without(all, i), id(88, 0), api.ID{}), -1)
			if n > 1 {
				isReady(t, l, all[i:i+1], -1)
			}
			// In that one's stead another one is, of which one byte is not the same.
			for at := range 32 {
				other := slices.Clone(all)
				other[i][at] ^= 128
				isReady(t, l, other, -1)
				isReady(t, l, append(other, all[i]), 0)
			}
		}
		for _, have := range append(orders(all), twice(all), append(slices.Clone(all), id(88, 0)), append([]api.ID{id(88, 0), {}}, all...)) {
			isReady(t, l, have, 0)
		}
	}
}

// P16.2: the first one that is ready, in the middle, the last one, several, two that are the same, and all.
func TestReadyFirst(t *testing.T) {
	a := some(9)
	var l []api.Commit
	for i := range 9 {
		l = append(l, after(i%8, 1+i, a[i]))
	}
	for n := 1; n <= 9; n++ {
		isReady(t, l[:n], nil, -1)
		for i := range n {
			isReady(t, l[:n], a[i:i+1], i)
			isReady(t, l[:n], a[i:], i)
			isReady(t, l[:n], without(a, i), slices.IndexFunc(l[:n], func(c api.Commit) bool { return !equal(c, l[i]) }))
			for j := i; j < n; j++ {
				isReady(t, l[:n], []api.ID{a[j], a[i]}, i)
				isReady(t, l[:n], []api.ID{a[i], a[j], a[j], a[i]}, i)
				// Two that are the same: the first one alone goes.
				two := slices.Insert(clone(l[:n]), j, l[i])
				isReady(t, two, a[i:i+1], i)
				isReady(t, two, without(a, i), slices.IndexFunc(two, func(c api.Commit) bool { return !equal(c, l[i]) }))
			}
		}
		for _, have := range orders(a) {
			isReady(t, l[:n], have, 0)
		}
	}
	// More than wait otherwise, each one as the last one goes.
	many := row(100)
	for i, c := range many {
		isReady(t, many, c.Parents, wantReady(many[:i+1], c.Parents))
	}
}

// P16.2: what waits itself is not there; and what is there may wait.
func TestReadyWaits(t *testing.T) {
	a := id(1, 0)
	root, low := after(0, 1), after(1, 1, a)
	child, deep := next(2, 1, root), next(3, 1, low)
	isReady(t, []api.Commit{child, root}, nil, 1)
	isReady(t, []api.Commit{child, deep, low}, nil, -1)
	isReady(t, []api.Commit{child, deep, low}, []api.ID{a}, 2)
	isReady(t, []api.Commit{child, deep, low}, []api.ID{idOf(low), a}, 1)
	isReady(t, []api.Commit{child, deep, low}, idsOf(child, deep), -1)
	isReady(t, []api.Commit{low, child}, idsOf(low, child, root), 1)
	// One that may not be, and a merge, are asked for their parents alone.
	for _, c := range slices.Concat(bad(), merges(), good()) {
		isReady(t, []api.Commit{low, c}, c.Parents, wantReady([]api.Commit{low, c}, c.Parents))
		isReady(t, []api.Commit{c}, c.Parents, 0)
		isReady(t, []api.Commit{c}, twice(c.Parents), 0)
		if len(c.Parents) > 0 {
			isReady(t, []api.Commit{c}, nil, -1)
			rest := slices.DeleteFunc(slices.Clone(c.Parents), func(p api.ID) bool { return p == c.Parents[0] })
			isReady(t, []api.Commit{c}, rest, -1)
		} else {
			isReady(t, []api.Commit{low, c}, nil, 1)
		}
	}
}

// P16.3: none that wait, nothing there, and what is missing of one.
func TestMissing(t *testing.T) {
	a, b, c := id(1, 0), id(1, 1), id(2, 0)
	for _, have := range [][]api.ID{nil, {}, {a}, {c, b, a}} {
		isMissing(t, nil, have)
		isMissing(t, []api.Commit{}, have)
		isMissing(t, []api.Commit{after(0, 1)}, have)
		isMissing(t, []api.Commit{{}}, have)
	}
	for n := 1; n <= 8; n++ {
		all := some(n)
		l := []api.Commit{after(0, 1, all...)}
		isMissing(t, l, nil, all...)
		isMissing(t, l, []api.ID{{}, id(1, 77), id(255, 255)}, all...)
		isMissing(t, l, all)
		for i := range n {
			isMissing(t, l, all[i:i+1], without(all, i)...)
			isMissing(t, l, without(all, i), all[i])
			isMissing(t, l, all[i:], all[:i]...)
		}
	}
	// Of several, sorted, those that several have once.
	isMissing(t, []api.Commit{after(0, 1, a), after(1, 1, a)}, nil, a)
	isMissing(t, []api.Commit{after(0, 1, a), after(1, 1, a)}, []api.ID{a})
	isMissing(t, []api.Commit{after(0, 1, c), after(1, 1, a), after(2, 1, b)}, nil, a, b, c)
	isMissing(t, []api.Commit{after(0, 1, b, c), after(1, 1, a, c), after(2, 1, a, b)}, nil, a, b, c)
	isMissing(t, []api.Commit{after(0, 1, b, c), after(1, 1, a, c), after(2, 1, a, b)}, []api.ID{b}, a, c)
	isMissing(t, []api.Commit{after(0, 1, a, b), after(1, 1, b, c)}, []api.ID{c, a}, b)
	isMissing(t, []api.Commit{after(0, 1, id(0, 200), id(200, 0)), after(0, 1, api.ID{1: 200}, api.ID{0: 1, 1: 1})}, nil, id(0, 200), api.ID{1: 200}, api.ID{0: 1, 1: 1}, id(200, 0))
	isMissing(t, []api.Commit{after(0, 1, api.ID{})}, nil, api.ID{})
	var l []api.Commit
	for i := range 30 {
		l = append(l, after(i%8, i+1, some(37)[i:i+8]...))
	}
	isMissing(t, l, nil, some(37)...)
	isMissing(t, l, some(37)[:20], some(37)[20:]...)
	isMissing(t, l, some(37))
}

// P16.3: parents that are there, that wait themselves, that are both, and neither.
func TestMissingWaits(t *testing.T) {
	a, b := id(1, 0), id(2, 0)
	root, low := after(0, 1), after(1, 1, a)
	child, deep := next(2, 1, root), next(3, 1, low)
	top := next(4, 1, child, deep)
	isMissing(t, []api.Commit{child}, nil, idOf(root))
	isMissing(t, []api.Commit{child}, idsOf(root))
	isMissing(t, []api.Commit{child, root}, nil)
	isMissing(t, []api.Commit{child, root}, idsOf(root))
	isMissing(t, []api.Commit{child, root}, idsOf(child))
	isMissing(t, []api.Commit{deep}, []api.ID{a}, idOf(low))
	isMissing(t, []api.Commit{deep, low}, nil, a)
	isMissing(t, []api.Commit{deep, low}, idsOf(low), a)
	isMissing(t, []api.Commit{deep, low}, []api.ID{a})
	isMissing(t, []api.Commit{top, child, low}, nil, sorted(idOf(root), idOf(deep), a)...)
	isMissing(t, []api.Commit{top, child, low}, idsOf(root, low), sorted(idOf(deep), a)...)
	isMissing(t, []api.Commit{top, child, deep, low, root}, nil, a)
	isMissing(t, []api.Commit{top}, nil, sorted(idsOf(child, deep)...)...)
	isMissing(t, []api.Commit{top}, idsOf(child), idOf(deep))
	// One there, one that waits, one that is both, and one that is neither.
	c := after(5, 1, a, b, idOf(root), idOf(child))
	isMissing(t, []api.Commit{c, root, child}, append(idsOf(child), a), b)
	isMissing(t, []api.Commit{c, child}, append(idsOf(child), a), sorted(b, idOf(root))...)
	// What is almost the same as one that waits is not that.
	isMissing(t, []api.Commit{child, with(root, inc(2))}, nil, idOf(root))
}

func sorted(l ...api.ID) []api.ID {
	l = slices.Clone(l)
	slices.SortFunc(l, compare)
	return l
}

// P16.3: among those that wait are some that may not be, which have no id, and merges, which have one.
func TestMissingOdd(t *testing.T) {
	a, b := id(1, 0), id(2, 0)
	root, low := after(0, 1), after(1, 1, a)
	child := next(2, 1, root)
	for _, x := range bad() {
		want := slices.Compact(sorted(x.Parents...))
		isMissing(t, []api.Commit{x}, nil, want...)
		isMissing(t, []api.Commit{x}, x.Parents)
		// The others have theirs.
		isMissing(t, []api.Commit{x, root, child}, nil, want...)
		isMissing(t, []api.Commit{x, child}, x.Parents, idOf(root))
		// Noughts are the id of none.
		all := slices.Compact(sorted(append(want, a, api.ID{})...))
		isMissing(t, []api.Commit{x, low, after(6, 1, api.ID{})}, nil, all...)
	}
	// What would be the id of one that may not be is of none that waits.
	none := sha256.Sum256([]byte{0, 0, 1, 0, 0, 1, 97, 2})
	isMissing(t, []api.Commit{after(0, 0), after(3, 1, none)}, nil, none)
	isMissing(t, []api.Commit{after(0, 0), after(3, 1, none)}, []api.ID{none})
	for _, x := range merges() {
		isMissing(t, []api.Commit{x}, nil, x.Parents...)
		isMissing(t, []api.Commit{x}, x.Parents)
		isMissing(t, []api.Commit{x, next(3, 1, x)}, x.Parents)
		isMissing(t, []api.Commit{x, next(3, 1, x)}, nil, x.Parents...)
		isMissing(t, []api.Commit{x, after(3, 1, b, id(9, 9))}, idsOf(x), slices.Compact(sorted(append(slices.Clone(x.Parents), b, id(9, 9))...))...)
	}
	isMissing(t, []api.Commit{mergeOf(2, idsOf(root, low)...), root}, nil, idOf(low))
	isMissing(t, []api.Commit{mergeOf(2, idsOf(root, low)...), root, low, {}}, nil, a)
}

// mess are n commits, each behind some of those ahead, or behind ids that are of none.
func mess(n int, to func(int) int) []api.Commit {
	var l []api.Commit
	for i := range n {
		var parents []api.ID
		for range to(5) {
			if len(l) > 0 && to(4) > 0 {
				parents = append(parents, idOf(l[to(len(l))]))
			} else {
				parents = append(parents, id(byte(to(5)), 1))
			}
		}
		c := after(to(8), i+1, slices.Compact(sorted(parents...))...)
		l = append(l, with(c, operations()[to(5)]))
	}
	return l
}

// P16.4: what waits waits for what is missing, or there, or for others that wait; and once what is missing is there, one behind the other is ready, until nothing waits.
func TestFollows(t *testing.T) {
	to := chance(3)
	count := make([]int, 12)
	for range 3000 {
		all := mess(1+to(14), to)
		var l []api.Commit
		for _, c := range mixed(all, to)[:1+to(len(all))] {
			l = Put(l, c)
		}
		var have []api.ID
		for _, c := range all {
			if to(3) == 0 {
				have = append(have, idOf(c))
			}
		}
		m := Missing(l, have)
		count[min(len(m), 11)]++
		for _, c := range l {
			for _, p := range c.Parents {
				of := 0
				if slices.Contains(m, p) {
					of++
				}
				if slices.Contains(have, p) || slices.Contains(idsOf(l...), p) {
					of++
				}
				if of != 1 {
					t.Errorf("%x is missing, and not, or neither", p)
				}
			}
		}
		there := append(slices.Clone(have), m...)
		for n := len(l); n > 0; n-- {
			c, others, is := Ready(l, there)
			if !is || len(others) != n-1 {
				t.Fatalf("%v wait, of whom none is ready", l)
			}
			l, there = others, append(there, idOf(c))
			if more := Missing(l, there); len(more) != 0 {
				t.Errorf("%x is missing, which was not", more)
			}
		}
		isReady(t, l, there, -1)
	}
	for n := range 6 {
		if count[n] < 50 {
			t.Errorf("of so many are missing: %v", count)
		}
	}
}

// P16.4, P5: whatever comes, at most eight wait, which may be, are no merges, and of which none is the same as another one; the oldest ones go first.
func TestBound(t *testing.T) {
	to := chance(41)
	var l []api.Commit
	var have []api.ID
	from := slices.Concat(good(), row(40), mess(40, to), bad(), merges())
	full, taken := 0, 0
	for range 5000 {
		c := from[to(len(from))]
		more := Put(l, c)
		isPut(t, l, c, wantPut(l, c))
		put := commit.May(c) && !commit.Merge(c)
		if len(more) > 8 || put && !slices.ContainsFunc(more, func(x api.Commit) bool { return equal(x, c) }) {
			t.Fatalf("%v wait, where %v was put", more, c)
		}
		if len(more) == 8 {
			full++
		}
		l = more
		for i, x := range l {
			if !commit.May(x) || commit.Merge(x) || slices.ContainsFunc(l[:i], func(y api.Commit) bool { return equal(x, y) }) {
				t.Fatalf("%v wait", l)
			}
		}
		if to(20) == 0 {
			have = append(have, id(byte(to(5)), byte(to(3))))
		}
		if to(50) == 0 {
			have = nil
		}
		if x, others, is := Ready(l, have); is && to(3) == 0 {
			l, have = others, append(have, idOf(x))
			taken++
		}
	}
	if full < 500 || taken < 100 {
		t.Errorf("%d times eight waited, %d were taken", full, taken)
	}
}

// answer is all that a call answers.
type answer struct {
	c api.Commit
	l []api.Commit
	a []api.ID
}

func (x answer) clone() answer {
	return answer{clone([]api.Commit{x.c})[0], clone(x.l), slices.Clone(x.a)}
}

func (x answer) same(y answer) bool {
	return equal(x.c, y.c) && same(x.l, y.l) && slices.Equal(x.a, y.a)
}

// spoil changes all that ids, or commits, have room for, behind their end, too.
func spoil(a []api.ID) {
	a = a[:cap(a)]
	for i := range a {
		a[i][0] ^= 0x5a
	}
}

func spoilCommits(l []api.Commit) {
	l = l[:cap(l)]
	for i := range l {
		spoil(l[i].Parents)
		l[i] = api.Commit{Gen: 77}
	}
}

func (x answer) spoil() {
	spoil(x.c.Parents)
	spoilCommits(x.l)
	spoil(x.a)
}

// roomy are commits with room behind them, and behind their parents, in which something stands.
func roomy(l []api.Commit) []api.Commit {
	all := append(clone(l), row(3)...)
	for i := range all {
		p := append(slices.Clone(all[i].Parents), id(55, 0), id(55, 1))
		all[i].Parents = p[:len(all[i].Parents)]
	}
	return all[:len(l)]
}

// whole is a copy of commits, and of what stands in the room behind them, and behind their parents.
func whole(l []api.Commit) []api.Commit {
	l = slices.Clone(l[:cap(l)])
	for i := range l {
		l[i].Parents = slices.Clone(l[i].Parents[:cap(l[i].Parents)])
	}
	return l
}

// R3, R5: what is handed in stays, with its parents, also behind its end; what is answered is new, and the next answer is the same.
func TestOwn(t *testing.T) {
	calls := map[string]func(l []api.Commit, c api.Commit, have []api.ID) answer{
		"Put": func(l []api.Commit, c api.Commit, _ []api.ID) answer { return answer{l: Put(l, c)} },
		"Ready": func(l []api.Commit, _ api.Commit, have []api.ID) answer {
			c, o, _ := Ready(l, have)
			return answer{c: c, l: o}
		},
		"Missing": func(l []api.Commit, _ api.Commit, have []api.ID) answer { return answer{a: Missing(l, have)} },
	}
	for name, f := range calls {
		for _, n := range []int{0, 1, 2, 3, 7, 8, 9, 12} {
			was := slices.Concat(row(n), bad()[:n/3], merges()[:n/4])
			for _, put := range slices.Concat(good()[:6], bad()[:30], merges()[:2], was) {
				for _, h := range [][]api.ID{nil, some(1), put.Parents, some(8)} {
					l, c := roomy(was), roomy([]api.Commit{put})
					have := append(slices.Clone(h), id(66, 0), id(66, 1))[:len(h)]
					keepL, keepC, keepHave := whole(l), whole(c), slices.Clone(have[:cap(have)])
					stays := func() bool {
						return same(whole(l), keepL) && same(whole(c), keepC) && slices.Equal(have[:cap(have)], keepHave)
					}
					first := f(l, c[0], have)
					want := first.clone()
					if !stays() {
						t.Fatalf("%s changes what is handed in", name)
					}
					second := f(l, c[0], have)
					first.spoil()
					if !stays() || !second.same(want) {
						t.Fatalf("%s: what was handed in, or another answer, changes with the answer", name)
					}
					third := f(l, c[0], have)
					spoilCommits(l)
					spoilCommits(c)
					spoil(have)
					if !third.same(want) {
						t.Fatalf("%s: the answer changes with what was handed in, or is another one the next time", name)
					}
				}
			}
		}
	}
}

// R3: no two commits of an answer share their parents, also where those that were handed in do.
func TestOwnShared(t *testing.T) {
	p := some(8)
	var l []api.Commit
	for i := range 10 {
		l = append(l, inGen(asOf(after(i%8, 1+i), p[:1+i%8]...), 2))
	}
	c := inGen(asOf(after(7, 99), p[2:5]...), 2)
	for n := range 11 {
		for _, have := range [][]api.ID{nil, p[:1], p[:3], p} {
			was := clone(l[:n])
			put := Put(l[:n], c)
			want := append(was[max(0, n-7):], clone([]api.Commit{c})...)
			one, others, is := Ready(l[:n], have)
			wantOthers := clone(others)
			m := Missing(l[:n], have)
			spoil(m)
			spoil(one.Parents)
			for i := range put {
				spoilCommits(put[i : i+1 : i+1])
				if !same(put[i+1:], want[i+1:]) {
					t.Fatalf("Put: another commit changes with that at %d", i)
				}
			}
			for i := range others {
				if !same(others[i:], wantOthers[i:]) {
					t.Fatalf("Ready: another commit changes with that at %d, or with the one that is ready (%v)", i-1, is)
				}
				spoilCommits(others[i : i+1 : i+1])
			}
			if !same(l[:n], was) || !slices.Equal(p, some(8)) || !equal(c, asOf(c, some(8)[2:5]...)) {
				t.Fatalf("what was handed in changes with the answers")
			}
		}
	}
}

// R3: a list that is put into again and again has room behind it, of which two lists make each their own.
func TestOwnRoom(t *testing.T) {
	all := row(12)
	for n := range 10 {
		l := make([]api.Commit, 0, 30)
		for _, c := range all[:n] {
			l = append(Put(l, c), all[11])[:min(len(l)+1, 8)]
		}
		a, b := Put(l, all[9]), Put(l, all[10])
		isPut(t, l, all[9], a)
		isPut(t, l, all[10], b)
		if !equal(a[len(a)-1], all[9]) || !equal(b[len(b)-1], all[10]) || !same(a[:len(a)-1], b[:len(b)-1]) {
			t.Errorf("%d that wait, and two more, are %v, %v", len(l), a, b)
		}
	}
}

// P1: long lists are answered, too.
func TestLong(t *testing.T) {
	const n = 20000
	var l []api.Commit
	var parents []api.ID
	for i := range n {
		var p []api.ID
		for j := range 8 {
			p = append(p, api.ID{0: byte(i >> 8), 1: byte(i), 2: byte(j), 31: 1})
		}
		parents = append(parents, p...)
		l = append(l, after(i%8, i+1, p...))
	}
	last := after(0, most, some(1)...)
	isPut(t, l, last, append(clone(l[n-7:]), last))
	isPut(t, l, l[n-1], l)
	isReady(t, l, parents[1:], 1)
	isReady(t, l, slices.DeleteFunc(slices.Clone(parents), func(p api.ID) bool { return p[2] == 7 }), -1)
	isReady(t, l, parents[8*(n-1):], n-1)
	if got := Missing(l, parents[:n]); !slices.Equal(got, parents[n:]) {
		t.Errorf("%d are missing", len(got))
	}
	// One that has far too many parents.
	huge := asOf(last, parents...)
	isPut(t, l[:3], huge, l[:3])
	isReady(t, []api.Commit{huge}, parents, 0)
	isReady(t, []api.Commit{huge}, parents[:8*n-1], -1)
	if got := Missing([]api.Commit{huge, last, huge}, some(1)); !slices.Equal(got, parents) {
		t.Errorf("%d are missing", len(got))
	}
}

// P1, R1: no call panics, and each answers as the chapter says, whatever it is given.
func TestAny(t *testing.T) {
	to := chance(29)
	odd := []int{0, 1, -1, 2, 3, 7, 8, 9, most, most + 1, 1 << 32, math.MaxInt, math.MinInt}
	texts := []string{"", "a", "A", "abcdefgh", "abcdefghi", "\x00\xff"}
	number := func() int {
		if to(3) == 0 {
			return odd[to(len(odd))]
		}
		return to(4)
	}
	listed := slices.Concat(good(), bad(), merges(), row(12))
	one := func() api.Commit {
		if to(3) > 0 {
			return listed[to(len(listed))]
		}
		c := api.Commit{Ev: api.Event{Node: number(), Seq: number()}, Gen: number(), Op: api.Op{Kind: number(), Key: texts[to(6)], Elem: texts[to(6)], N: number()}}
		for range to(3) * to(6) {
			c.Parents = append(c.Parents, id(byte(to(4)), byte(to(3))))
		}
		return c
	}
	for range 20000 {
		var l []api.Commit
		for range to(3) * to(6) {
			l = append(l, one())
			if to(3) == 0 && commit.May(l[0]) {
				l = append(l, next(to(8), 1+to(9), l[0]))
			}
		}
		c := one()
		if to(4) == 0 && len(l) > 0 {
			c = l[to(len(l))]
		}
		have := mixed(some(24), to)[:to(25)]
		for _, x := range l {
			if to(3) == 0 {
				have = append(have, x.Parents...)
			}
			if to(3) == 0 && commit.May(x) {
				have = append(have, idOf(x))
			}
		}
		isAsWanted(t, l, c, have)
	}
}
