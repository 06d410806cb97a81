package dag

import (
	"bytes"
	"crypto/sha256"
	"maps"
	"math"
	"slices"
	"testing"

	"anabranch/api"
	"anabranch/commit"
)

const most = 1048576

func inc(n int) api.Op { return api.Op{Kind: 0, Key: "a", N: n} }

// of is a commit of a generation, behind others, whatever their own ones are.
func of(node, seq, gen int, parents ...api.Commit) api.Commit {
	c := api.Commit{Ev: api.Event{Node: node, Seq: seq}, Gen: gen, Op: inc(1)}
	for _, p := range parents {
		c.Parents = append(c.Parents, idOf(p))
	}
	slices.SortFunc(c.Parents, compare)
	return c
}

// next is a commit of the generation that stands behind others.
func next(node, seq int, parents ...api.Commit) api.Commit {
	gen := 0
	for _, p := range parents {
		gen = max(gen, p.Gen)
	}
	return of(node, seq, gen+1, parents...)
}

// mergeOf is a merge of others.
func mergeOf(parents ...api.Commit) api.Commit {
	c := next(-1, 0, parents...)
	c.Op = api.Op{}
	return c
}

func compare(a, b api.ID) int { return bytes.Compare(a[:], b[:]) }

// idOf is the SHA-256 of a commit's bytes, or noughts if it has none.
func idOf(c api.Commit) api.ID {
	b, no := commit.Put(c)
	if no != api.OK {
		return api.ID{}
	}
	return sha256.Sum256(b)
}

func idsOf(l ...api.Commit) []api.ID {
	var a []api.ID
	for _, c := range l {
		a = append(a, idOf(c))
	}
	return a
}

func clone(l []api.Commit) []api.Commit {
	l = slices.Clone(l)
	for i := range l {
		l[i].Parents = slices.Clone(l[i].Parents)
	}
	return l
}

func same(a, b []api.Commit) bool {
	return slices.EqualFunc(a, b, func(x, y api.Commit) bool {
		return x.Ev == y.Ev && x.Gen == y.Gen && x.Op == y.Op && slices.Equal(x.Parents, y.Parents)
	})
}

// chance answers numbers that seem random, the same ones each time.
func chance(seed uint32) func(int) int {
	return func(n int) int {
		seed = seed*1664525 + 1013904223
		return int(seed>>8) % n
	}
}

func mixed[T any](l []T, to func(int) int) []T {
	l = slices.Clone(l)
	for i := range l {
		j := i + to(len(l)-i)
		l[i], l[j] = l[j], l[i]
	}
	return l
}

// orders are all orders of a short list, and some of a longer one.
func orders[T any](l []T) [][]T {
	if len(l) > 5 {
		back := slices.Clone(l)
		slices.Reverse(back)
		all, to := [][]T{l, back}, chance(uint32(len(l)))
		for range 30 {
			all = append(all, mixed(l, to))
		}
		return all
	}
	all := [][]T{{}}
	for _, x := range l {
		var more [][]T
		for _, o := range all {
			for i := range len(o) + 1 {
				more = append(more, slices.Insert(slices.Clone(o), i, x))
			}
		}
		all = more
	}
	return all
}

// wantKnows tells by places who knows whom: parents at first, and then, again and again, what these know.
func wantKnows(l []api.Commit, own []api.ID) [][]bool {
	knows := make([][]bool, len(l))
	for i, c := range l {
		knows[i] = make([]bool, len(l))
		for j := range l {
			knows[i][j] = slices.Contains(c.Parents, own[j])
		}
	}
	for k := range l {
		for i := range l {
			for j := range l {
				knows[i][j] = knows[i][j] || knows[i][k] && knows[k][j]
			}
		}
	}
	return knows
}

// wantParents asks what the chapter does of a commit's parents: all there, none that knows another one, and the generation.
func wantParents(l []api.Commit, own []api.ID, knows [][]bool, c api.Commit) bool {
	gen := 0
	for _, p := range c.Parents {
		i := slices.Index(own, p)
		if i < 0 {
			return false
		}
		gen = max(gen, l[i].Gen)
		for _, q := range c.Parents {
			if j := slices.Index(own, q); j >= 0 && knows[i][j] {
				return false
			}
		}
	}
	return c.Gen == 1+gen
}

func wantClosed(l []api.Commit) bool { return wantClosedBy(l, idsOf(l...)) }

func wantClosedBy(l []api.Commit, own []api.ID) bool {
	for i, c := range l {
		if !commit.May(c) || commit.Merge(c) || slices.Index(own, own[i]) != i {
			return false
		}
	}
	knows := wantKnows(l, own)
	for i, c := range l {
		if !wantParents(l, own, knows, c) {
			return false
		}
		for j, d := range l {
			if i != j && c.Ev.Node == d.Ev.Node && c.Ev.Seq >= d.Ev.Seq && !knows[i][j] {
				return false
			}
			if i != j && c.Ev == d.Ev {
				return false
			}
		}
	}
	return true
}

func wantIds(l []api.Commit) []api.ID {
	for _, c := range l {
		if !commit.May(c) {
			return nil
		}
	}
	return idsOf(l...)
}

func wantAnc(l []api.Commit, a []api.ID) []api.ID {
	if !wantClosed(l) {
		return nil
	}
	own := idsOf(l...)
	knows := wantKnows(l, own)
	var r []api.ID
	for j := range l {
		is := slices.Contains(a, own[j])
		for i := range l {
			is = is || slices.Contains(a, own[i]) && knows[i][j]
		}
		if is {
			r = append(r, own[j])
		}
	}
	slices.SortFunc(r, compare)
	return r
}

func wantPart(l []api.Commit, a []api.ID) []api.Commit {
	if !wantClosed(l) {
		return nil
	}
	var r []api.Commit
	for _, c := range l {
		if slices.Contains(a, idOf(c)) {
			r = append(r, c)
		}
	}
	return r
}

// wantSorted puts each commit in at its place, one by one.
func wantSorted(l []api.Commit) []api.Commit {
	if !wantClosed(l) {
		return nil
	}
	var r []api.Commit
	for _, c := range l {
		k := 0
		for k < len(r) && (r[k].Gen < c.Gen || r[k].Gen == c.Gen && compare(idOf(r[k]), idOf(c)) < 0) {
			k++
		}
		r = slices.Insert(r, k, c)
	}
	return r
}

// checkAll holds each call against the chapter's words, and asks that what is handed in stays.
func checkAll(t *testing.T, l []api.Commit, a []api.ID) {
	t.Helper()
	keep, keepIds := clone(l), slices.Clone(a)
	if got, want := Ids(l), wantIds(l); !slices.Equal(got, want) {
		t.Errorf("Ids(%v) = %x, want %x", l, got, want)
	}
	if got, want := Closed(l), wantClosed(l); got != want {
		t.Errorf("Closed(%v) = %v, want %v", l, got, want)
	}
	if got, want := Anc(l, a), wantAnc(l, a); !slices.Equal(got, want) {
		t.Errorf("Anc(%v, %x) = %x, want %x", l, a, got, want)
	}
	if got, want := Part(l, a), wantPart(l, a); !same(got, want) {
		t.Errorf("Part(%v, %x) = %v, want %v", l, a, got, want)
	}
	if got, want := Sorted(l), wantSorted(l); !same(got, want) {
		t.Errorf("Sorted(%v) = %v, want %v", l, got, want)
	}
	if !same(l, keep) || !slices.Equal(a, keepIds) {
		t.Errorf("%v, %x: what was handed in is %v, %x", keep, keepIds, l, a)
	}
}

// closedIs asks that a list, in every order, is closed, or is not, and that the other calls answer nothing then.
func closedIs(t *testing.T, want bool, l ...api.Commit) {
	t.Helper()
	if wantClosed(l) != want {
		t.Fatalf("%v: the test itself is wrong", l)
	}
	for _, o := range orders(l) {
		a := append(idsOf(o...), api.ID{}, api.ID{31: 1})
		if Closed(o) != want {
			t.Errorf("Closed(%v) = %v", o, !want)
		}
		if !want && (len(Anc(o, a)) != 0 || len(Part(o, a)) != 0 || len(Sorted(o)) != 0) {
			t.Errorf("%v: not closed, but %x, %v, %v", o, Anc(o, a), Part(o, a), Sorted(o))
		}
		checkAll(t, o, a)
	}
}

// line are n commits, each behind the one ahead, of several nodes in turn, with Seqs left out.
func line(n, nodes, step int) []api.Commit {
	l := []api.Commit{of(0, step, 1)}
	for i := 1; i < n; i++ {
		l = append(l, next(i%nodes, step*(i+1), l[i-1]))
	}
	return l
}

// eight are of eight nodes without parents, and one behind all of them.
func eight() []api.Commit {
	var l []api.Commit
	for node := range 8 {
		l = append(l, of(node, 1, 1))
	}
	return append(l, next(3, 2, l...))
}

// mess is a closed list of n commits: each node knows some, and now and then all that another one does.
func mess(n, nodes int, to func(int) int) []api.Commit {
	var l []api.Commit
	knows := make([]map[int]bool, nodes)
	seq := make([]int, nodes)
	for i := range knows {
		knows[i] = map[int]bool{}
	}
	for len(l) < n {
		who := to(nodes)
		if to(2) == 0 {
			maps.Copy(knows[who], knows[to(nodes)])
			continue
		}
		seq[who] += 1 + to(3)
		// Who knows a commit knows its parents, so that the last ones are those that are no parents there.
		last := maps.Clone(knows[who])
		for i := range knows[who] {
			for j := range knows[who] {
				if slices.Contains(l[i].Parents, idOf(l[j])) {
					delete(last, j)
				}
			}
		}
		var parents []api.Commit
		for i := range last {
			parents = append(parents, l[i])
		}
		knows[who][len(l)] = true
		l = append(l, next(who, seq[who], parents...))
	}
	return l
}

// closedLists are closed, of all shapes.
func closedLists() [][]api.Commit {
	a, b, c := of(0, 1, 1), of(1, 1, 1), of(2, 5, 1)
	left, right := next(0, 2, a), next(1, 1, a)
	deep := next(0, 3, left)
	lists := [][]api.Commit{
		nil, {}, {a}, {c}, {of(7, most, 1)}, {a, b}, {a, b, c},
		{a, left}, {a, left, deep}, {a, left, right}, {a, left, right, next(2, 1, left, right)},
		{a, left, deep, right, next(1, 9, deep, right)}, {a, b, next(0, 2, a), next(1, 2, b)},
		{a, b, next(0, 2, a, b), next(1, 2, a, b)}, {a, b, c, next(1, 2, a, b), next(2, 6, b, c)},
		line(2, 1, 1), line(5, 1, 3), line(6, 2, 1), line(9, 3, 2), line(12, 8, 1), eight(), eight()[:8],
	}
	to := chance(11)
	for n := 2; n < 30; n++ {
		lists = append(lists, mess(n, 1+n%8, to))
	}
	return lists
}

// badCommits may not be.
func badCommits() []api.Commit {
	a := of(0, 1, 1)
	noOp := a
	noOp.Op = api.Op{}
	return []api.Commit{{}, noOp, of(8, 1, 1), of(-1, 1, 1), of(-1, 0, 1), of(-2, 1, 1), of(0, 0, 1), of(0, -1, 1), of(0, most+1, 1), of(0, 1, 0), of(0, 1, 2), of(0, 1, 1, a), of(0, 2, most+1, a), of(0, 2, 2, a, a), of(math.MaxInt, 1, 1), of(math.MinInt, 1, 1), of(0, math.MinInt, math.MinInt)}
}

// P11.1: in order, and nothing if one may not be.
func TestIds(t *testing.T) {
	a, b, c := of(0, 1, 1), of(1, 1, 1), of(2, 1, 1)
	m := mergeOf(a, b)
	for _, l := range append(closedLists(), []api.Commit{a, a}, []api.Commit{a, b, a}, []api.Commit{m}, []api.Commit{m, c, a, m}, []api.Commit{of(5, 9, 7, b)}, []api.Commit{next(0, 2, a), a}) {
		for _, o := range orders(l) {
			if got, want := Ids(o), idsOf(o...); !slices.Equal(got, want) {
				t.Errorf("Ids(%v) = %x, want %x", o, got, want)
			}
		}
	}
	for _, bad := range badCommits() {
		for i := range 4 {
			l := slices.Insert([]api.Commit{a, b, m}, i, bad)
			if got := Ids(l); len(got) != 0 {
				t.Errorf("Ids(%v) = %x", l, got)
			}
		}
		if got := Ids([]api.Commit{bad}); len(got) != 0 {
			t.Errorf("Ids of %v alone = %x", bad, got)
		}
		checkAll(t, []api.Commit{a, bad, b}, idsOf(a, bad))
	}
}

func found(t *testing.T, l []api.Commit, a api.ID, want api.Commit) {
	t.Helper()
	if c, ok := Find(l, a); !ok || !same([]api.Commit{c}, []api.Commit{want}) {
		t.Errorf("Find(%v, %x) = %v, %v, want %v", l, a, c, ok, want)
	}
}

func none(t *testing.T, l []api.Commit, a api.ID) {
	t.Helper()
	if c, ok := Find(l, a); ok || c.Ev != (api.Event{}) || c.Gen != 0 || len(c.Parents) != 0 || c.Op != (api.Op{}) {
		t.Errorf("Find(%v, %x) = %v, %v, want noughts and false", l, a, c, ok)
	}
}

// P11.1: the commit of an id, whatever else stands in the list.
func TestFind(t *testing.T) {
	a, b, c := of(0, 1, 1), of(1, 1, 1), of(2, 1, 1)
	behind, m := next(0, 2, a, b), mergeOf(a, b, c)
	for _, l := range append(closedLists(), []api.Commit{a, b, a}, []api.Commit{a, a, m, m, behind}, []api.Commit{behind}, []api.Commit{m}) {
		for _, x := range l {
			found(t, l, idOf(x), x)
		}
		near := of(6, 77, 1)
		none(t, l, idOf(near))
		none(t, l, api.ID{})
		for _, x := range l {
			own := idOf(x)
			own[31]++
			none(t, l, own)
			for _, p := range x.Parents {
				if !slices.Contains(idsOf(l...), p) {
					none(t, l, p)
				}
			}
		}
	}
	for _, bad := range badCommits() {
		none(t, []api.Commit{bad}, api.ID{})
		none(t, []api.Commit{bad, bad}, idOf(a))
		for i := range 3 {
			l := slices.Insert([]api.Commit{b, behind}, i, bad)
			found(t, l, idOf(b), b)
			found(t, l, idOf(behind), behind)
			none(t, l, api.ID{})
			none(t, l, idOf(c))
		}
	}
}

// P11.2: lists of all shapes, in every order, and each of them without one that others know.
func TestClosed(t *testing.T) {
	for _, l := range closedLists() {
		closedIs(t, true, l...)
		for i, c := range l {
			left := slices.Delete(slices.Clone(l), i, i+1)
			known := slices.ContainsFunc(left, func(d api.Commit) bool { return slices.Contains(d.Parents, idOf(c)) })
			if got := Closed(left); got == known {
				t.Errorf("%v without %v: Closed is %v", l, c, got)
			}
		}
	}
}

// P11.2: each cause, alone, makes a list one that is not closed.
func TestNotClosed(t *testing.T) {
	a, b, c := of(0, 1, 1), of(1, 1, 1), of(2, 1, 1)
	left, right := next(0, 2, a), next(1, 2, b)
	deep := next(0, 3, left)
	other := a
	other.Op = inc(2)
	for _, bad := range badCommits() {
		closedIs(t, false, bad)
		closedIs(t, false, a, bad)
		closedIs(t, false, b, right, bad)
	}
	for _, l := range [][]api.Commit{
		// A merge, also with one behind it.
		{a, b, mergeOf(a, b)}, {a, b, c, mergeOf(a, b, c)}, {a, b, mergeOf(a, b), next(2, 1, mergeOf(a, b))}, {mergeOf(a, b)},
		// Two of one id.
		{a, a}, {a, b, a}, {a, left, left}, {a, a, left},
		// A parent that is not there.
		{left}, {b, left}, {a, deep}, {a, left, next(1, 1, left, c)}, {next(2, 2, a, b), a}, {next(2, 2, a, b), b},
		// A Gen that is too great, or too small.
		{a, of(0, 2, 3, a)}, {a, of(0, 2, most, a)}, {a, left, of(0, 3, 2, left)}, {a, left, of(0, 3, 4, left)},
		{a, left, b, of(2, 1, 2, left, b)}, {a, left, b, of(2, 1, 4, left, b)}, {a, left, deep, b, of(1, 2, 2, deep, b)}, {a, left, deep, b, of(1, 2, 3, deep, b)},
		// A parent that another one knows, straight, and by others.
		{a, left, next(1, 1, a, left)}, {a, left, deep, next(1, 1, a, deep)}, {a, left, deep, next(1, 1, left, deep)}, {a, left, deep, next(1, 1, a, left, deep)},
		{a, b, next(0, 2, a, b), next(2, 1, next(0, 2, a, b), b)}, {a, b, c, next(0, 2, a, b), next(1, 2, next(0, 2, a, b), c, a)},
		{a, next(1, 1, a), next(2, 1, next(1, 1, a)), next(3, 1, a, next(2, 1, next(1, 1, a)))},
		// Two of one Node of which the later one does not know the earlier one.
		{a, of(0, 2, 1)}, {a, b, of(1, 7, 1)}, {a, b, next(0, 2, b)}, {a, left, next(0, 3, a)}, {a, left, b, next(0, 3, b)},
		{a, left, next(1, 1, a), next(0, 3, next(1, 1, a))}, {a, b, next(1, 2, a)}, {a, left, next(0, 5, b), b},
		// The earlier one knows the later one.
		{of(0, 2, 1), next(0, 1, of(0, 2, 1))}, {of(0, 3, 1), next(0, 1, of(0, 3, 1)), next(0, 4, next(0, 1, of(0, 3, 1)))}, {b, of(0, 9, 2, b), next(1, 2, of(0, 9, 2, b)), next(0, 8, next(1, 2, of(0, 9, 2, b)))},
		// Two of one event, at the same place, behind others, and one behind the other.
		{a, other}, {a, b, other}, {a, next(0, 1, a)}, {a, b, left, next(0, 2, b)}, {a, b, left, next(0, 2, a, b)}, {a, left, next(0, 2, left)}, {a, b, right, next(1, 2, right)}, {b, next(0, 1, b), a}, {of(7, most, 1), next(7, most, of(7, most, 1))},
	} {
		closedIs(t, false, l...)
	}
	// One cause among many commits, wherever it stands.
	to := chance(5)
	for n := 4; n < 24; n += 5 {
		l := mess(n, 4, to)
		for _, x := range []api.Commit{{}, l[0], l[n-1], of(l[n-1].Ev.Node, most, 1), of(7, 1, 2, of(7, 1, 1)), next(7, 1, l[0], of(6, 1, 1)), mergeOf(of(6, 1, 1), of(7, 1, 1)), of(7, 1, 1+most, l[0]), of(7, 1, 5, l[0])} {
			if wantClosed(append(slices.Clone(l), x)) {
				t.Fatalf("%v and %v: the test itself is wrong", l, x)
			}
			closedIs(t, false, append(slices.Clone(l), x)...)
		}
	}
}

// short are commits and their ids, of which but some bits are left, as Parents too.
func short(l []api.Commit, bits byte) ([]api.Commit, []api.ID) {
	l = clone(l)
	left := map[api.ID]api.ID{}
	var own []api.ID
	for i, c := range l {
		for j, p := range l[i].Parents {
			l[i].Parents[j] = left[p]
		}
		slices.SortFunc(l[i].Parents, compare)
		left[idOf(c)] = api.ID{31: idOf(c)[31] & bits}
		own = append(own, left[idOf(c)])
	}
	return l, own
}

// P11.2: no two have one id, whatever their events are. Nobody knows two contents that have one, so that the ids are handed in here.
func TestOneId(t *testing.T) {
	a, b := of(0, 1, 1), of(1, 1, 1)
	one, two, three := api.ID{31: 1}, api.ID{31: 2}, api.ID{31: 3}
	behind := func(node, seq, gen int, parents ...api.ID) api.Commit {
		return api.Commit{Ev: api.Event{Node: node, Seq: seq}, Gen: gen, Parents: parents, Op: inc(1)}
	}
	for i, x := range []struct {
		l    []api.Commit
		own  []api.ID
		want bool
	}{
		{[]api.Commit{a, b}, []api.ID{one, two}, true},
		{[]api.Commit{a, b}, []api.ID{one, one}, false},
		{[]api.Commit{a, b, of(2, 1, 1)}, []api.ID{one, two, three}, true},
		{[]api.Commit{a, b, of(2, 1, 1)}, []api.ID{one, two, one}, false},
		{[]api.Commit{a, behind(0, 2, 2, one)}, []api.ID{one, two}, true},
		{[]api.Commit{a, behind(0, 2, 2, one)}, []api.ID{one, one}, false},
		{[]api.Commit{a, behind(1, 1, 2, one)}, []api.ID{one, one}, false},
		{[]api.Commit{a, b, behind(0, 2, 2, one)}, []api.ID{one, two, three}, true},
		{[]api.Commit{a, b, behind(0, 2, 2, one)}, []api.ID{one, two, two}, false},
		{[]api.Commit{a, b, behind(0, 2, 2, one)}, []api.ID{one, one, two}, false},
		{[]api.Commit{a, behind(0, 2, 2, one), behind(1, 1, 3, two)}, []api.ID{one, two, three}, true},
		{[]api.Commit{a, behind(0, 2, 2, one), behind(1, 1, 3, two)}, []api.ID{one, two, one}, false},
		{[]api.Commit{a, behind(0, 2, 2, one), behind(1, 1, 2, one)}, []api.ID{one, two, two}, false},
	} {
		for _, o := range orders([]int{0, 1, 2}[:len(x.l)]) {
			var l []api.Commit
			var own []api.ID
			for _, k := range o {
				l, own = append(l, x.l[k]), append(own, x.own[k])
			}
			if wantClosedBy(l, own) != x.want {
				t.Fatalf("%d: the test itself is wrong", i)
			}
			if _, got := known(l, own); got != x.want {
				t.Errorf("%d: %v, of ids %x: closed is %v", i, l, own, got)
			}
		}
	}
	to := chance(23)
	count := map[bool]int{}
	for n := range 3000 {
		l, own := short(mess(1+to(7), 1+to(4), to), []byte{3, 15, 255}[n%3])
		for _, c := range l {
			if !commit.May(c) {
				// It has no id at all.
				own = nil
			}
		}
		if own == nil {
			continue
		}
		want := wantClosedBy(l, own)
		if _, got := known(l, own); got != want {
			t.Errorf("%v, of ids %x: closed is %v, want %v", l, own, got, want)
		}
		count[want]++
	}
	if count[true] < 300 || count[false] < 300 {
		t.Errorf("only %v", count)
	}
}

// candidates are commits of which some together are closed, and some not for one cause or several.
func candidates() []api.Commit {
	var l []api.Commit
	for node := range 2 {
		for _, seq := range []int{1, 2} {
			l = append(l, of(node, seq, 1))
		}
	}
	first := slices.Clone(l)
	l = append(l, of(2, 1, 1))
	for _, seq := range []int{1, 2, 3} {
		l = append(l, next(0, seq, first[0]), next(0, seq, first[0], first[2]), next(1, seq, first[0]))
	}
	l = append(l, of(0, 3, 3, first[0]), next(2, 1, first[0], first[3]))
	second := []api.Commit{l[8], l[9], l[10]}
	for _, p := range second {
		l = append(l, next(0, 4, p), next(1, 4, p), next(1, 4, p, first[2]), next(2, 1, p, first[0]))
	}
	return append(l, mergeOf(first[0], first[2]), api.Commit{})
}

// P11.2: all lists of up to four commits out of some.
func TestClosedShort(t *testing.T) {
	from := candidates()
	closed, all := 0, 0
	var rest func(l []api.Commit, at, more int)
	rest = func(l []api.Commit, at, more int) {
		for _, o := range [][]api.Commit{l, mixed(l, chance(uint32(all)))} {
			want := wantClosed(o)
			if got := Closed(o); got != want {
				t.Errorf("Closed(%v) = %v, want %v", o, got, want)
			}
			if all++; want {
				closed++
			}
		}
		for i := at; more > 0 && i < len(from); i++ {
			rest(append(slices.Clone(l), from[i]), i, more-1)
		}
	}
	rest(nil, 0, 4)
	if closed < 100 || all < 20000 {
		t.Errorf("only %d of %d lists are closed", closed, all)
	}
}

// P11.2: closed lists of which one commit was changed, taken away, doubled, or put in.
func TestClosedChanged(t *testing.T) {
	to := chance(7)
	count := map[bool]int{}
	for n := range 4000 {
		l := mess(1+to(12), 1+to(5), to)
		i := to(len(l))
		c := l[i]
		switch n % 8 {
		case 0:
			l = slices.Delete(l, i, i+1)
		case 1:
			l = append(l, c)
		case 2:
			l[i].Gen += 1 - 2*to(2)
		case 3:
			l[i].Ev.Seq += to(7) - 3
		case 4:
			l[i].Ev.Node = to(8)
		case 5:
			l = append(l, next(to(5), 1+to(30), c, l[to(len(l))]))
		case 6:
			l = append(l, next(to(5), 1+to(30), c))
		case 7:
			if len(c.Parents) > 1 {
				j := to(len(c.Parents))
				l[i].Parents = slices.Delete(slices.Clone(c.Parents), j, j+1)
			}
		}
		l = mixed(l, to)
		count[wantClosed(l)]++
		checkAll(t, l, mixed(idsOf(l...), to)[:to(len(l)+1)])
	}
	if count[true] < 400 || count[false] < 400 {
		t.Errorf("only %v", count)
	}
}

// asked are ids that the calls may be given with a list.
func asked(l []api.Commit, to func(int) int) [][]api.ID {
	own := idsOf(l...)
	all := [][]api.ID{nil, {}, {{}}, {{31: 1}, idOf(of(7, 99, 1))}, own, append(slices.Clone(own), own...), append([]api.ID{{}}, own...)}
	for _, a := range own {
		all = append(all, []api.ID{a}, []api.ID{a, a}, []api.ID{{}, a, {31: 9}, a})
	}
	for range 12 {
		few := mixed(own, to)[:to(len(own)+1)]
		all = append(all, few, append(slices.Clone(few), few...), append(mixed(few, to), api.ID{0: 5}))
	}
	falling := slices.Clone(own)
	slices.SortFunc(falling, func(a, b api.ID) int { return compare(b, a) })
	return append(all, falling)
}

// P11.3: of closed lists, in every order, and of all sorts of ids.
func TestAnswers(t *testing.T) {
	to := chance(3)
	for _, l := range closedLists() {
		for _, a := range asked(l, to) {
			checkAll(t, l, a)
			checkAll(t, mixed(l, to), a)
		}
	}
}

// P11.3: the answers, written out.
func TestWritten(t *testing.T) {
	a, b := of(0, 1, 1), of(1, 1, 1)
	left := next(0, 2, a)
	both := next(1, 2, left, b)
	sorted := func(l ...api.Commit) []api.ID {
		own := idsOf(l...)
		slices.SortFunc(own, compare)
		return own
	}
	for _, l := range orders([]api.Commit{a, b, left, both}) {
		for _, x := range []struct {
			a    []api.ID
			want []api.ID
		}{
			{nil, nil}, {[]api.ID{{}}, nil}, {idsOf(of(5, 1, 1)), nil},
			{idsOf(a), sorted(a)}, {idsOf(b), sorted(b)}, {idsOf(left), sorted(a, left)}, {idsOf(both), sorted(a, b, left, both)},
			{idsOf(left, a), sorted(a, left)}, {idsOf(left, b), sorted(a, b, left)}, {idsOf(b, a, b), sorted(a, b)}, {idsOf(a, of(5, 1, 1)), sorted(a)}, {idsOf(both, a), sorted(a, b, left, both)},
		} {
			if got := Anc(l, x.a); !slices.Equal(got, x.want) {
				t.Errorf("Anc(%v, %x) = %x, want %x", l, x.a, got, x.want)
			}
		}
		if got := Part(l, nil); len(got) != 0 {
			t.Errorf("Part of no ids is %v", got)
		}
		if got := Part(l, append(idsOf(both, a, both), api.ID{})); len(got) != 2 || slices.Index(idsOf(l...), idOf(got[0])) > slices.Index(idsOf(l...), idOf(got[1])) || !slices.Equal(sorted(got...), sorted(a, both)) {
			t.Errorf("Part of the first one and the last one of %v is %v", l, got)
		}
		want := []api.Commit{a, b, left, both}
		if compare(idOf(b), idOf(a)) < 0 {
			want = []api.Commit{b, a, left, both}
		}
		if got := Sorted(l); !same(got, want) {
			t.Errorf("Sorted(%v) = %v", l, got)
		}
	}
}

// The chapter's example.
func TestExample(t *testing.T) {
	a := of(0, 1, 1)
	b := next(1, 1, a)
	want := idsOf(a, b)
	slices.SortFunc(want, compare)
	for _, l := range [][]api.Commit{{a, b}, {b, a}} {
		if got := Anc(l, idsOf(b)); !slices.Equal(got, want) {
			t.Errorf("%x, want %x", got, want)
		}
		if got := Anc(l, idsOf(a)); !slices.Equal(got, idsOf(a)) {
			t.Errorf("%x, want the one without parents alone", got)
		}
	}
}

// P11.3, P3: by generations, then by ids, whatever the order was.
func TestSorted(t *testing.T) {
	var roots, wide []api.Commit
	for node := range 8 {
		roots = append(roots, of(node, 1, 1))
	}
	for node := range 8 {
		wide = append(wide, next(node, 2, roots[node]))
	}
	for _, l := range append(closedLists(), roots, append(slices.Clone(wide), roots...)) {
		want := wantSorted(l)
		if len(want) != len(l) {
			t.Fatalf("%v: the test itself is wrong", l)
		}
		for _, o := range orders(l) {
			if got := Sorted(o); !same(got, want) {
				t.Errorf("Sorted(%v) = %v, want %v", o, got, want)
			}
		}
	}
}

// P11.4: Part of Anc is closed, and Anc of two lists together is what both have.
func TestFollows(t *testing.T) {
	to := chance(9)
	for _, l := range closedLists() {
		all := asked(l, to)
		for i, a := range all {
			anc := Anc(l, a)
			part := Part(l, anc)
			if !Closed(part) || len(part) != len(anc) {
				t.Errorf("Part of Anc(%v, %x) is %v", l, a, part)
			}
			if again := Anc(l, anc); !slices.Equal(again, anc) {
				t.Errorf("Anc of Anc(%v, %x) is %x, not %x", l, a, again, anc)
			}
			if there := Anc(part, a); !slices.Equal(there, anc) {
				t.Errorf("Anc(%v, %x) is %x, and %x of what is known alone", l, a, anc, there)
			}
			b := all[(i*7+2)%len(all)]
			want := append(slices.Clone(anc), Anc(l, b)...)
			slices.SortFunc(want, compare)
			want = slices.Compact(want)
			if got := Anc(l, append(slices.Clone(a), b...)); !slices.Equal(got, want) {
				t.Errorf("%v: Anc of %x and %x together is %x, want %x", l, a, b, got, want)
			}
		}
	}
}

// P3: which ones are closed, and what they know, does not hang on their order.
func TestOrder(t *testing.T) {
	to := chance(13)
	for range 60 {
		l := mess(2+to(20), 1+to(8), to)
		a := mixed(idsOf(l...), to)[:to(4)%len(l)]
		anc, sorted := Anc(l, a), Sorted(l)
		for range 10 {
			o := mixed(l, to)
			if !Closed(o) || !slices.Equal(Anc(o, mixed(a, to)), anc) || !same(Sorted(o), sorted) {
				t.Errorf("%v: another answer than of %v", o, l)
			}
		}
	}
}

// R3: what is answered is new, parents too, and what is handed in stays, also behind its end.
func TestOwn(t *testing.T) {
	l := eight()
	l = append(l, next(5, 8, l[8]), next(3, 9, next(5, 8, l[8])))
	all := idsOf(l...)
	calls := []struct {
		name string
		f    func(l []api.Commit, a []api.ID) []api.Commit
	}{
		{"Find", func(l []api.Commit, a []api.ID) []api.Commit {
			c, _ := Find(l, idOf(eight()[8]))
			return []api.Commit{c}
		}},
		{"Part", Part},
		{"Sorted", func(l []api.Commit, a []api.ID) []api.Commit { return Sorted(l) }},
	}
	for _, c := range calls {
		room, a := append(clone(l), of(6, 6, 6), of(7, 7, 7)), slices.Clone(all)
		keep := clone(room)
		got := c.f(room[:len(l)], a)
		want := clone(got)
		for i := range room {
			for j := range room[i].Parents {
				room[i].Parents[j] = api.ID{}
			}
			room[i].Parents = append(room[i].Parents, api.ID{})
			room[i].Gen = 99
		}
		clear(a)
		if len(got) == 0 || !same(got, want) {
			t.Errorf("%s: the answer changes with what was handed in", c.name)
		}
		room = clone(keep)
		got = c.f(room[:len(l)], all)
		for i := range got {
			for j := range got[i].Parents {
				got[i].Parents[j][0]++
			}
			got[i].Parents = append(got[i].Parents, api.ID{7})
			got[i].Ev.Seq = -5
		}
		_ = append(got, api.Commit{Gen: 77})
		if !same(room, keep) {
			t.Errorf("%s: what was handed in changes with the answer", c.name)
		}
		if again := c.f(room[:len(l)], all); !same(again, want) {
			t.Errorf("%s: another answer the next time", c.name)
		}
	}
	a := slices.Clone(all)
	got, own := Anc(l, a[:9]), Ids(l)
	clear(a)
	want := idsOf(l[:9]...)
	slices.SortFunc(want, compare)
	if !slices.Equal(got, want) {
		t.Error("Anc: the answer changes with what was handed in")
	}
	clear(own)
	clear(got)
	if !slices.Equal(Ids(l), all) || !slices.Equal(Anc(l, all[:9]), want) {
		t.Error("another answer the next time")
	}
}

// P1: long lists are answered too: one line, and many nodes side by side.
func TestLong(t *testing.T) {
	to := chance(17)
	var wide []api.Commit
	for i := range 400 {
		if i < 8 {
			wide = append(wide, of(i, 1, 1))
		} else {
			wide = append(wide, next(i%8, 1+i, wide[i-8]))
		}
	}
	for _, l := range [][]api.Commit{line(100, 1, 1), line(100, 8, 1), line(100, 3, 7), line(3000, 2, 1), wide} {
		own := idsOf(l...)
		for _, o := range [][]api.Commit{l, mixed(l, to)} {
			if !Closed(o) || !slices.Equal(Ids(o), idsOf(o...)) {
				t.Fatalf("%d commits are not closed, or have other ids", len(o))
			}
			if got := Sorted(o); !Closed(got) || len(got) != len(l) || !slices.IsSortedFunc(got, func(a, b api.Commit) int { return a.Gen - b.Gen }) {
				t.Errorf("%d commits, sorted, are %d", len(l), len(got))
			}
			if got := Part(o, Anc(o, own)); !same(got, o) {
				t.Errorf("%d commits: all that all know are %d", len(l), len(got))
			}
		}
		if Closed(l[1:]) || Closed(append(slices.Clone(l), l[50])) || Closed(append(l[:70:70], l[71:]...)) {
			t.Errorf("%d commits are closed without one, or with one twice", len(l))
		}
	}
	l := line(100, 4, 2)
	for i := range l {
		want := idsOf(l[:i+1]...)
		slices.SortFunc(want, compare)
		if got := Anc(l, idsOf(l[i])); !slices.Equal(got, want) {
			t.Errorf("Anc of the commit %d of a line are %d", i, len(got))
		}
	}
}

// odd are numbers at the edges and at the ends.
func odd() []int {
	return []int{0, 1, -1, 2, 3, 7, 8, 9, most, most + 1, 1 << 32, math.MaxInt, math.MinInt}
}

// P1, R1, R5: every call ends, none panics, and each answers as the chapter says, whatever it is given.
func TestAny(t *testing.T) {
	to := chance(19)
	texts := []string{"", "a", "A", "abcdefgh", "abcdefghi", "\x00\xff"}
	number := func() int {
		if to(3) == 0 {
			return odd()[to(len(odd()))]
		}
		return to(4)
	}
	for range 4000 {
		var l []api.Commit
		var a []api.ID
		for range to(6) {
			c := api.Commit{Ev: api.Event{Node: number(), Seq: number()}, Gen: number(), Op: api.Op{Kind: number(), Key: texts[to(6)], Elem: texts[to(6)], N: number()}}
			if to(2) == 0 {
				c.Op = inc(1)
			}
			for range to(3) * to(6) {
				c.Parents = append(c.Parents, []api.ID{{}, {31: byte(to(9))}, {0: byte(to(9))}}[to(3)])
			}
			for _, d := range l {
				if to(2) == 0 {
					c.Parents, c.Gen = append(c.Parents, idOf(d)), max(c.Gen, d.Gen+1)
				}
			}
			slices.SortFunc(c.Parents, compare)
			l, a = append(l, c), append(a, append(c.Parents, idOf(c))...)
		}
		checkAll(t, l, a)
		Find(l, api.ID{})
		if len(a) > 0 {
			Find(l, a[to(len(a))])
		}
	}
	Find(nil, api.ID{})
	for _, n := range odd() {
		checkAll(t, []api.Commit{{Ev: api.Event{Node: n, Seq: n}, Gen: n, Op: inc(1)}, of(n, 1, 1), of(0, n, 1), of(0, 1, n)}, []api.ID{{}})
	}
}
