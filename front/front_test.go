package front

import (
	"bytes"
	"crypto/sha256"
	"maps"
	"math"
	"slices"
	"sync"
	"testing"

	"anabranch/api"
	"anabranch/commit"
	"anabranch/dag"
)

const most = 1048576

func inc(n int) api.Op { return api.Op{Kind: 0, Key: "a", N: n} }

// of is a commit of a generation, behind others, whatever their own ones are.
func of(node, seq, gen int, parents ...api.Commit) api.Commit {
	c := api.Commit{Ev: api.Event{Node: node, Seq: seq}, Gen: gen, Op: inc(1)}
	for _, p := range parents {
		c.Parents = append(c.Parents, idOf(p))
	}
	slices.SortFunc(c.Parents, compare)
	return c
}

// next is a commit of the generation that stands behind others.
func next(node, seq int, parents ...api.Commit) api.Commit {
	gen := 0
	for _, p := range parents {
		gen = max(gen, p.Gen)
	}
	return of(node, seq, gen+1, parents...)
}

// mergeOf is a merge of others.
func mergeOf(parents ...api.Commit) api.Commit {
	c := next(-1, 0, parents...)
	c.Op = api.Op{}
	return c
}

func compare(a, b api.ID) int { return bytes.Compare(a[:], b[:]) }

// idOf is the SHA-256 of a commit's bytes, or noughts if it has none.
func idOf(c api.Commit) api.ID {
	b, no := commit.Put(c)
	if no != api.OK {
		return api.ID{}
	}
	return sha256.Sum256(b)
}

func idsOf(l ...api.Commit) []api.ID {
	var a []api.ID
	for _, c := range l {
		a = append(a, idOf(c))
	}
	return a
}

func clone(l []api.Commit) []api.Commit {
	l = slices.Clone(l)
	for i := range l {
		l[i].Parents = slices.Clone(l[i].Parents)
	}
	return l
}

func same(a, b []api.Commit) bool {
	return slices.EqualFunc(a, b, func(x, y api.Commit) bool {
		return x.Ev == y.Ev && x.Gen == y.Gen && x.Op == y.Op && slices.Equal(x.Parents, y.Parents)
	})
}

// chance answers numbers that seem random, the same ones each time.
func chance(seed uint32) func(int) int {
	return func(n int) int {
		seed = seed*1664525 + 1013904223
		return int(seed>>8) % n
	}
}

func mixed[T any](l []T, to func(int) int) []T {
	l = slices.Clone(l)
	for i := range l {
		j := i + to(len(l)-i)
		l[i], l[j] = l[j], l[i]
	}
	return l
}

// orders are all orders of a short list, and some of a longer one.
func orders[T any](l []T) [][]T {
	if len(l) > 5 {
		back := slices.Clone(l)
		slices.Reverse(back)
		all, to := [][]T{l, back}, chance(uint32(len(l)))
		for range 30 {
			all = append(all, mixed(l, to))
		}
		return all
	}
	all := [][]T{{}}
	for _, x := range l {
		var more [][]T
		for _, o := range all {
			for i := range len(o) + 1 {
				more = append(more, slices.Insert(slices.Clone(o), i, x))
			}
		}
		all = more
	}
	return all
}

// wantKnows tells by places who knows whom: parents at first, and then, again and again, what these know.
func wantKnows(l []api.Commit, own []api.ID) [][]bool {
	knows := make([][]bool, len(l))
	for i, c := range l {
		knows[i] = make([]bool, len(l))
		for j := range l {
			knows[i][j] = slices.Contains(c.Parents, own[j])
		}
	}
	for k := range l {
		for i := range l {
			for j := range l {
				knows[i][j] = knows[i][j] || knows[i][k] && knows[k][j]
			}
		}
	}
	return knows
}

// wantParents asks what the chapter does of a commit's parents: all there, none that knows another one, and the generation.
func wantParents(l []api.Commit, own []api.ID, knows [][]bool, c api.Commit) bool {
	gen := 0
	for _, p := range c.Parents {
		i := slices.Index(own, p)
		if i < 0 {
			return false
		}
		gen = max(gen, l[i].Gen)
		for _, q := range c.Parents {
			if j := slices.Index(own, q); j >= 0 && knows[i][j] {
				return false
			}
		}
	}
	return c.Gen == 1+gen
}

func wantClosed(l []api.Commit) bool {
	own := idsOf(l...)
	for i, c := range l {
		if !commit.May(c) || commit.Merge(c) || slices.Index(own, own[i]) != i {
			return false
		}
	}
	knows := wantKnows(l, own)
	for i, c := range l {
		if !wantParents(l, own, knows, c) {
			return false
		}
		for j, d := range l {
			if i != j && c.Ev.Node == d.Ev.Node && c.Ev.Seq >= d.Ev.Seq && !knows[i][j] {
				return false
			}
			if i != j && c.Ev == d.Ev {
				return false
			}
		}
	}
	return true
}

// wantFront are the ids of those that no other one knows.
func wantFront(l []api.Commit) []api.ID {
	if !wantClosed(l) {
		return nil
	}
	own := idsOf(l...)
	knows := wantKnows(l, own)
	var f []api.ID
	for j := range l {
		known := false
		for i := range l {
			known = known || i != j && knows[i][j]
		}
		if !known {
			f = append(f, own[j])
		}
	}
	slices.SortFunc(f, compare)
	return f
}

// wantAnc are the commits of ids, and all that these know, in order.
func wantAnc(l []api.Commit, a []api.ID) []api.Commit {
	own := idsOf(l...)
	knows := wantKnows(l, own)
	var r []api.Commit
	for j := range l {
		is := slices.Contains(a, own[j])
		for i := range l {
			is = is || slices.Contains(a, own[i]) && knows[i][j]
		}
		if is {
			r = append(r, l[j])
		}
	}
	return r
}

func wantJoin(l []api.Commit, a []api.ID) (api.Commit, bool) {
	if !wantClosed(l) {
		return api.Commit{}, false
	}
	f := wantFront(wantAnc(l, a))
	gen := 0
	for _, c := range l {
		if len(f) == 1 && idOf(c) == f[0] {
			return c, true
		}
		if slices.Contains(f, idOf(c)) {
			gen = max(gen, c.Gen)
		}
	}
	if len(f) == 0 {
		return api.Commit{}, false
	}
	return api.Commit{Ev: api.Event{Node: -1}, Gen: gen + 1, Parents: f}, true
}

func wantBase(l []api.Commit, a, b []api.ID) []api.ID {
	if !wantClosed(l) {
		return nil
	}
	inB := idsOf(wantAnc(l, b)...)
	var r []api.ID
	for _, x := range idsOf(wantAnc(l, a)...) {
		if slices.Contains(inB, x) {
			r = append(r, x)
		}
	}
	slices.SortFunc(r, compare)
	return r
}

func wantNext(l []api.Commit, ev api.Event, o api.Op) (api.Commit, bool) {
	if !wantClosed(l) {
		return api.Commit{}, false
	}
	gen := 0
	for _, c := range l {
		gen = max(gen, c.Gen)
	}
	c := api.Commit{Ev: ev, Gen: gen + 1, Parents: wantFront(l), Op: o}
	if !wantClosed(append(clone(l), c)) {
		return api.Commit{}, false
	}
	return c, true
}

// isCommit asks that an answer is the one that is wanted, noughts beside a false.
func isCommit(t *testing.T, what string, l []api.Commit, got api.Commit, is bool, want api.Commit, wantIs bool) {
	t.Helper()
	if is != wantIs || !same([]api.Commit{got}, []api.Commit{want}) {
		t.Errorf("%s of %v = %v, %v, want %v, %v", what, l, got, is, want, wantIs)
	}
}

// checkAll holds each call against the chapter's words, and asks that what is handed in stays.
func checkAll(t *testing.T, l []api.Commit, a, b []api.ID, ev api.Event, o api.Op) {
	t.Helper()
	keep, keepA, keepB := clone(l), slices.Clone(a), slices.Clone(b)
	if got, want := Front(l), wantFront(l); !slices.Equal(got, want) {
		t.Errorf("Front(%v) = %x, want %x", l, got, want)
	}
	if got, want := Base(l, a, b), wantBase(l, a, b); !slices.Equal(got, want) {
		t.Errorf("Base(%v, %x, %x) = %x, want %x", l, a, b, got, want)
	}
	got, is := Join(l, a)
	want, wantIs := wantJoin(l, a)
	isCommit(t, "Join", l, got, is, want, wantIs)
	got, is = Head(l)
	want, wantIs = wantJoin(l, idsOf(l...))
	isCommit(t, "Head", l, got, is, want, wantIs)
	got, is = Next(l, ev, o)
	want, wantIs = wantNext(l, ev, o)
	isCommit(t, "Next", l, got, is, want, wantIs)
	if !same(l, keep) || !slices.Equal(a, keepA) || !slices.Equal(b, keepB) {
		t.Errorf("%v, %x, %x: what was handed in is %v, %x, %x", keep, keepA, keepB, l, a, b)
	}
}

// line are n commits, each behind the one ahead, of several nodes in turn, with Seqs left out.
func line(n, nodes, step int) []api.Commit {
	l := []api.Commit{of(0, step, 1)}
	for i := 1; i < n; i++ {
		l = append(l, next(i%nodes, step*(i+1), l[i-1]))
	}
	return l
}

// eight are of eight nodes without parents, and one behind all of them.
func eight() []api.Commit {
	var l []api.Commit
	for node := range 8 {
		l = append(l, of(node, 1, 1))
	}
	return append(l, next(3, 2, l...))
}

// mess is a closed list of n commits: each node knows some, and now and then all that another one does.
func mess(n, nodes int, to func(int) int) []api.Commit {
	var l []api.Commit
	knows := make([]map[int]bool, nodes)
	seq := make([]int, nodes)
	for i := range knows {
		knows[i] = map[int]bool{}
	}
	for len(l) < n {
		who := to(nodes)
		if to(2) == 0 {
			maps.Copy(knows[who], knows[to(nodes)])
			continue
		}
		seq[who] += 1 + to(3)
		// Who knows a commit knows its parents, so that the last ones are those that are no parents there.
		last := maps.Clone(knows[who])
		for i := range knows[who] {
			for j := range knows[who] {
				if slices.Contains(l[i].Parents, idOf(l[j])) {
					delete(last, j)
				}
			}
		}
		var parents []api.Commit
		for i := range last {
			parents = append(parents, l[i])
		}
		knows[who][len(l)] = true
		l = append(l, next(who, seq[who], parents...))
	}
	return l
}

// closedLists are closed, of all shapes.
func closedLists() [][]api.Commit {
	a, b, c := of(0, 1, 1), of(1, 1, 1), of(2, 5, 1)
	left, right := next(0, 2, a), next(1, 1, a)
	deep := next(0, 3, left)
	lists := [][]api.Commit{
		nil, {}, {a}, {c}, {of(7, most, 1)}, {a, b}, {a, b, c},
		{a, left}, {a, left, deep}, {a, left, right}, {a, left, right, next(2, 1, left, right)},
		{a, left, deep, right, next(1, 9, deep, right)}, {a, b, next(0, 2, a), next(1, 2, b)},
		{a, b, next(0, 2, a, b), next(1, 2, a, b)}, {a, b, c, next(1, 2, a, b), next(2, 6, b, c)},
		line(2, 1, 1), line(5, 1, 3), line(6, 2, 1), line(9, 3, 2), line(12, 8, 1), eight(), eight()[:8],
	}
	to := chance(11)
	for n := 2; n < 30; n++ {
		lists = append(lists, mess(n, 1+n%8, to))
	}
	return lists
}

// badCommits may not be.
func badCommits() []api.Commit {
	a := of(0, 1, 1)
	noOp := a
	noOp.Op = api.Op{}
	return []api.Commit{{}, noOp, of(8, 1, 1), of(-1, 1, 1), of(-1, 0, 1), of(-2, 1, 1), of(0, 0, 1), of(0, -1, 1), of(0, most+1, 1), of(0, 1, 0), of(0, 1, 2), of(0, 1, 1, a), of(0, 2, most+1, a), of(0, 2, 2, a, a), of(math.MaxInt, 1, 1), of(math.MinInt, 1, 1), of(0, math.MinInt, math.MinInt)}
}

// asked are ids that the calls may be given with a list.
func asked(l []api.Commit, to func(int) int) [][]api.ID {
	own := idsOf(l...)
	all := [][]api.ID{nil, {}, {{}}, {{31: 1}, idOf(of(7, 99, 1))}, own, append(slices.Clone(own), own...), append([]api.ID{{}}, own...)}
	for _, a := range own {
		all = append(all, []api.ID{a}, []api.ID{a, a}, []api.ID{{}, a, {31: 9}, a})
	}
	for range 12 {
		few := mixed(own, to)[:to(len(own)+1)]
		all = append(all, few, append(slices.Clone(few), few...), append(mixed(few, to), api.ID{0: 5}))
	}
	falling := slices.Clone(own)
	slices.SortFunc(falling, func(a, b api.ID) int { return compare(b, a) })
	return append(all, falling)
}

// odd are numbers at the edges and at the ends.
func odd() []int {
	return []int{0, 1, -1, 2, 3, 7, 8, 9, most, most + 1, 1 << 32, math.MaxInt, math.MinInt}
}

// sorted are the ids of commits, rising.
func sorted(l ...api.Commit) []api.ID {
	own := idsOf(l...)
	slices.SortFunc(own, compare)
	return own
}

// notClosed are lists that are not closed, each for one cause.
func notClosed() [][]api.Commit {
	a, b := of(0, 1, 1), of(1, 1, 1)
	left, right := next(0, 2, a), next(1, 2, b)
	other := a
	other.Op = inc(2)
	lists := [][]api.Commit{
		{left}, {a, a}, {a, left, left}, {a, other}, {a, of(0, 2, 1)}, {a, b, next(0, 2, b)}, {a, next(0, 1, a)}, {of(0, 2, 1), next(0, 1, of(0, 2, 1))},
		{a, of(0, 2, 3, a)}, {a, left, of(0, 3, 2, left)}, {a, left, next(1, 1, a, left)}, {a, b, mergeOf(a, b)}, {a, b, mergeOf(a, b), next(2, 1, mergeOf(a, b))}, {mergeOf(a, b)},
		{a, right}, {a, b, left, right, next(2, 1, left, right, of(3, 1, 1))}, append(eight(), eight()[3]), eight()[1:],
	}
	for _, bad := range badCommits() {
		lists = append(lists, []api.Commit{bad}, []api.Commit{a, bad}, []api.Commit{a, b, left, bad})
	}
	return lists
}

// P12.1: those that no other one knows, in every order of a list.
func TestFront(t *testing.T) {
	for _, l := range closedLists() {
		want := wantFront(l)
		if len(want) == 0 && len(l) > 0 {
			t.Fatalf("%v: the test itself is wrong", l)
		}
		for _, o := range orders(l) {
			if got := Front(o); !slices.Equal(got, want) {
				t.Errorf("Front(%v) = %x, want %x", o, got, want)
			}
		}
	}
}

// P12.1: the last ones, written out.
func TestFrontWritten(t *testing.T) {
	a, b, c := of(0, 1, 1), of(1, 1, 1), of(2, 5, 1)
	left, right := next(0, 2, a), next(1, 2, a)
	deep := next(0, 3, left)
	for _, x := range []struct{ l, want []api.Commit }{
		{nil, nil}, {[]api.Commit{}, nil}, {[]api.Commit{a}, []api.Commit{a}}, {[]api.Commit{a, b}, []api.Commit{a, b}}, {[]api.Commit{a, b, c}, []api.Commit{a, b, c}},
		{[]api.Commit{a, left}, []api.Commit{left}}, {[]api.Commit{a, left, deep}, []api.Commit{deep}}, {line(9, 1, 1), line(9, 1, 1)[8:]}, {line(9, 4, 2), line(9, 4, 2)[8:]},
		{[]api.Commit{a, left, right}, []api.Commit{left, right}}, {[]api.Commit{a, left, deep, right}, []api.Commit{deep, right}}, {[]api.Commit{a, left, b}, []api.Commit{left, b}},
		{[]api.Commit{a, left, right, next(2, 1, left, right)}, []api.Commit{next(2, 1, left, right)}},
		{[]api.Commit{a, left, right, deep, next(2, 1, left, right)}, []api.Commit{deep, next(2, 1, left, right)}},
		{[]api.Commit{a, left, right, deep, next(2, 1, deep, right)}, []api.Commit{next(2, 1, deep, right)}},
		{[]api.Commit{a, left, right, deep, next(2, 1, deep, right), of(6, 1, 1)}, []api.Commit{next(2, 1, deep, right), of(6, 1, 1)}},
		{eight()[:8], eight()[:8]}, {eight(), eight()[8:]},
	} {
		for _, o := range orders(x.l) {
			if got := Front(o); !slices.Equal(got, sorted(x.want...)) {
				t.Errorf("Front(%v) = %x, want %x", o, got, sorted(x.want...))
			}
		}
	}
}

// P12.1 to P12.4: of lists that are not closed there is nothing.
func TestNotClosed(t *testing.T) {
	for _, l := range notClosed() {
		if wantClosed(l) {
			t.Fatalf("%v: the test itself is wrong", l)
		}
		for _, o := range orders(l) {
			own := idsOf(o...)
			for _, a := range [][]api.ID{nil, {}, {{}}, own[:1], own} {
				if f, b := Front(o), Base(o, a, own); len(f) != 0 || len(b) != 0 {
					t.Errorf("%v is not closed, but Front is %x, Base %x", o, f, b)
				}
				c, is := Join(o, a)
				isCommit(t, "Join", o, c, is, api.Commit{}, false)
			}
			c, is := Head(o)
			isCommit(t, "Head", o, c, is, api.Commit{}, false)
			for node := range 8 {
				for _, seq := range []int{1, 2, 3, 9} {
					c, is = Next(o, api.Event{Node: node, Seq: seq}, inc(1))
					isCommit(t, "Next", o, c, is, api.Commit{}, false)
				}
			}
		}
	}
}

// P12.2: of all sorts of ids, in several orders of the list.
func TestJoin(t *testing.T) {
	to := chance(3)
	for _, l := range closedLists() {
		for _, a := range asked(l, to) {
			want, wantIs := wantJoin(l, a)
			for _, o := range [][]api.Commit{l, mixed(l, to)} {
				got, is := Join(o, a)
				isCommit(t, "Join", o, got, is, want, wantIs)
				got, is = Join(o, mixed(a, to))
				isCommit(t, "Join", o, got, is, want, wantIs)
			}
		}
		want, wantIs := wantJoin(l, idsOf(l...))
		for _, o := range orders(l) {
			got, is := Head(o)
			isCommit(t, "Head", o, got, is, want, wantIs)
		}
	}
}

// P12.2: the joins, written out.
func TestJoinWritten(t *testing.T) {
	a, b, c := of(0, 1, 1), of(1, 1, 1), of(2, 5, 1)
	left, right := next(0, 2, a), next(3, 1, a)
	deep := next(0, 3, left)
	none := of(5, 1, 1)
	merge := func(gen int, parents ...api.Commit) api.Commit {
		return api.Commit{Ev: api.Event{Node: -1}, Gen: gen, Parents: sorted(parents...)}
	}
	l := []api.Commit{a, b, c, left, right, deep}
	for _, x := range []struct {
		a    []api.ID
		want api.Commit
	}{
		// No ids, ids of none, and of a commit without a place there.
		{nil, api.Commit{}}, {[]api.ID{}, api.Commit{}}, {[]api.ID{{}}, api.Commit{}}, {idsOf(none), api.Commit{}}, {[]api.ID{{}, idOf(none), {}}, api.Commit{}},
		// One.
		{idsOf(a), a}, {idsOf(b), b}, {idsOf(deep), deep}, {idsOf(deep, deep), deep}, {idsOf(none, left), left}, {append(idsOf(c), api.ID{}), c},
		// Several, of which one knows all others.
		{idsOf(a, left), left}, {idsOf(left, a, deep), deep}, {idsOf(right, a), right}, {idsOf(deep, a, a, deep, none), deep},
		// Several of which none knows the others.
		{idsOf(a, b), merge(2, a, b)}, {idsOf(c, b, a), merge(2, a, b, c)}, {idsOf(left, right), merge(3, left, right)}, {idsOf(deep, right), merge(4, deep, right)}, {idsOf(right, b), merge(3, right, b)},
		// Both.
		{idsOf(a, b, left), merge(3, b, left)}, {idsOf(a, left, deep, right, none, b, a), merge(4, deep, right, b)}, {idsOf(l...), merge(4, b, c, right, deep)},
	} {
		for _, o := range orders(l) {
			for _, ids := range orders(x.a) {
				got, is := Join(o, ids)
				isCommit(t, "Join", o, got, is, x.want, x.want.Gen > 0)
			}
		}
	}
	for _, x := range []struct {
		l    []api.Commit
		want api.Commit
	}{
		{nil, api.Commit{}}, {[]api.Commit{a}, a}, {[]api.Commit{a, left, deep}, deep}, {[]api.Commit{a, b}, merge(2, a, b)}, {[]api.Commit{a, left, right, deep}, merge(4, right, deep)},
		{line(20, 3, 1), line(20, 3, 1)[19]}, {eight(), eight()[8]}, {eight()[:8], merge(2, eight()[:8]...)}, {l, merge(4, b, c, right, deep)},
	} {
		for _, o := range orders(x.l) {
			got, is := Head(o)
			isCommit(t, "Head", o, got, is, x.want, x.want.Gen > 0)
			if is && !commit.May(got) {
				t.Errorf("Head of %v is %v, which may not be", o, got)
			}
		}
	}
}

// P12.3: what is in both, with all that these know.
func TestBase(t *testing.T) {
	to := chance(29)
	for _, l := range closedLists() {
		all := asked(l, to)
		for i, a := range all {
			for _, b := range [][]api.ID{all[(i*5+1)%len(all)], [][]api.ID{a, nil, idsOf(l...)}[i%3]} {
				want := wantBase(l, a, b)
				o := mixed(l, to)
				if got := Base(o, a, b); !slices.Equal(got, want) {
					t.Errorf("Base(%v, %x, %x) = %x, want %x", o, a, b, got, want)
				}
				if got := Base(o, mixed(b, to), a); !slices.Equal(got, want) {
					t.Errorf("Base(%v, %x, %x) = %x, want %x", o, b, a, got, want)
				}
			}
		}
	}
}

// P12.3: the bases, written out.
func TestBaseWritten(t *testing.T) {
	a, b := of(0, 1, 1), of(1, 1, 1)
	left, right := next(0, 2, a), next(3, 1, a)
	deep, meet := next(0, 3, left), next(4, 1, right, b)
	none := of(5, 1, 1)
	l := []api.Commit{a, b, left, right, deep, meet}
	for _, x := range []struct{ a, b, want []api.ID }{
		{nil, nil, nil}, {idsOf(a), nil, nil}, {idsOf(a), idsOf(none), nil}, {[]api.ID{{}}, []api.ID{{}}, nil}, {idsOf(none), idsOf(none), nil},
		// Nothing in common.
		{idsOf(a), idsOf(b), nil}, {idsOf(deep), idsOf(b), nil}, {idsOf(b), idsOf(left, right), nil},
		// One knows all of the other one, or is it.
		{idsOf(a), idsOf(left), sorted(a)}, {idsOf(left), idsOf(deep), sorted(a, left)}, {idsOf(meet), idsOf(right), sorted(a, right)}, {idsOf(l...), idsOf(b), sorted(b)},
		{idsOf(deep), idsOf(deep), sorted(a, left, deep)}, {idsOf(meet), idsOf(meet), sorted(a, b, right, meet)}, {idsOf(l...), idsOf(l...), sorted(l...)},
		// Some in common.
		{idsOf(left), idsOf(right), sorted(a)}, {idsOf(deep), idsOf(meet), sorted(a)}, {idsOf(deep, b), idsOf(meet), sorted(a, b)}, {idsOf(b, b, none, deep), idsOf(none, meet, left), sorted(a, b, left)},
	} {
		for _, o := range orders(l) {
			if got := Base(o, x.a, x.b); !slices.Equal(got, x.want) {
				t.Errorf("Base(%v, %x, %x) = %x, want %x", o, x.a, x.b, got, x.want)
			}
			if got := Base(o, x.b, x.a); !slices.Equal(got, x.want) {
				t.Errorf("Base(%v, %x, %x) = %x, want %x", o, x.b, x.a, got, x.want)
			}
		}
	}
}

// events are ones that may be and ones that may not, near those of a list.
func events(l []api.Commit) []api.Event {
	all := []api.Event{{}, {Node: -1}, {Node: -1, Seq: 1}, {Node: 8, Seq: 1}, {Node: 7, Seq: 0}, {Node: 7, Seq: -1}, {Node: 7, Seq: 1}, {Node: 7, Seq: most}, {Node: 7, Seq: most + 1}, {Node: 0, Seq: most}, {Node: 0, Seq: 1}, {Node: math.MaxInt, Seq: 1}, {Node: 0, Seq: math.MinInt}}
	for i, c := range l {
		if i < 3 || i+3 > len(l) {
			for _, more := range []int{-1, 0, 1, 2} {
				all = append(all, api.Event{Node: c.Ev.Node, Seq: c.Ev.Seq + more})
			}
		}
	}
	return all
}

// operations are ones that may be, and ones that may not.
func operations() []api.Op {
	return []api.Op{inc(1), {Kind: api.Set, Key: "k", Elem: "e"}, {Kind: api.Add, Key: "abcdefgh", Elem: "x"}, {Kind: api.Del, Key: "a", Elem: "x"}, {}, inc(0), inc(most + 1), {Kind: api.Ops, Key: "a"}, {Kind: -1, Key: "a", N: 1}, {Key: "", N: 1}, {Key: "abcdefghi", N: 1}, {Key: "A", N: 1}, {Key: "a", Elem: "x", N: 1}}
}

// P12.4: of all sorts of events and operations.
func TestNext(t *testing.T) {
	to := chance(31)
	count := map[bool]int{}
	for _, l := range closedLists() {
		for _, ev := range events(l) {
			for i, o := range operations() {
				if i > 0 && to(8) > 0 {
					continue
				}
				want, wantIs := wantNext(l, ev, o)
				for _, m := range [][]api.Commit{l, mixed(l, to)} {
					got, is := Next(m, ev, o)
					isCommit(t, "Next", m, got, is, want, wantIs)
					count[is]++
				}
			}
		}
	}
	if count[true] < 200 || count[false] < 200 {
		t.Errorf("only %v", count)
	}
}

// P12.4: the next ones, written out.
func TestNextWritten(t *testing.T) {
	a, b := of(0, 3, 1), of(1, 1, 1)
	left := next(0, 5, a)
	deep := next(2, 1, left)
	set := api.Op{Kind: api.Set, Key: "k", Elem: "e"}
	no := api.Commit{}
	under := func(c api.Commit, o api.Op) api.Commit { c.Op = o; return c }
	for _, x := range []struct {
		l    []api.Commit
		ev   api.Event
		o    api.Op
		want api.Commit
	}{
		// No commits.
		{nil, api.Event{Node: 0, Seq: 1}, inc(1), of(0, 1, 1)}, {nil, api.Event{Node: 7, Seq: most}, set, under(of(7, most, 1), set)}, {nil, api.Event{}, inc(1), no}, {nil, api.Event{Node: -1}, api.Op{}, no}, {nil, api.Event{Node: 0, Seq: 1}, api.Op{}, no},
		// A node that is new there, and one that has a commit with a lesser Seq.
		{[]api.Commit{a}, api.Event{Node: 1, Seq: 1}, inc(1), next(1, 1, a)}, {[]api.Commit{a}, api.Event{Node: 0, Seq: 4}, set, under(next(0, 4, a), set)}, {[]api.Commit{a}, api.Event{Node: 0, Seq: most}, inc(1), next(0, most, a)},
		{[]api.Commit{a, left, b}, api.Event{Node: 0, Seq: 6}, inc(1), next(0, 6, left, b)}, {[]api.Commit{a, left, b}, api.Event{Node: 1, Seq: 2}, inc(1), next(1, 2, left, b)}, {[]api.Commit{a, left, b, deep}, api.Event{Node: 7, Seq: 9}, inc(1), next(7, 9, deep, b)},
		// An event that is there, and one of a node whose greater Seq is there.
		{[]api.Commit{a}, api.Event{Node: 0, Seq: 3}, inc(1), no}, {[]api.Commit{a}, api.Event{Node: 0, Seq: 2}, inc(1), no}, {[]api.Commit{a, left, b}, api.Event{Node: 0, Seq: 3}, set, no}, {[]api.Commit{a, left, b}, api.Event{Node: 0, Seq: 4}, inc(1), no}, {[]api.Commit{a, left, b}, api.Event{Node: 0, Seq: 5}, inc(2), no}, {[]api.Commit{a, left, b}, api.Event{Node: 1, Seq: 1}, inc(1), no},
		// What may not be, also a merge, which may.
		{[]api.Commit{a}, api.Event{Node: 8, Seq: 1}, inc(1), no}, {[]api.Commit{a}, api.Event{Node: 1, Seq: 0}, inc(1), no}, {[]api.Commit{a}, api.Event{Node: 1, Seq: most + 1}, inc(1), no}, {[]api.Commit{a}, api.Event{Node: 1, Seq: 1}, inc(0), no}, {[]api.Commit{a}, api.Event{Node: 1, Seq: 1}, api.Op{}, no}, {[]api.Commit{a, b}, api.Event{Node: -1}, api.Op{}, no}, {[]api.Commit{a, b}, api.Event{Node: -1}, inc(1), no},
		// Eight last ones.
		{eight()[:8], api.Event{Node: 3, Seq: 2}, inc(1), eight()[8]}, {eight()[:8], api.Event{Node: 3, Seq: 1}, inc(1), no}, {eight(), api.Event{Node: 0, Seq: 2}, inc(1), next(0, 2, eight()[8])},
	} {
		for _, o := range orders(x.l) {
			got, is := Next(o, x.ev, x.o)
			isCommit(t, "Next", o, got, is, x.want, x.want.Gen > 0)
		}
	}
}

// P12.2, P12.4: behind the greatest generation there is none.
func TestGreatest(t *testing.T) {
	// One line up to it, and one commit beside it, ahead of them.
	l := make([]api.Commit, 1, most+1)
	l[0] = of(1, 1, 1)
	own := idsOf(l[0])
	var parents []api.ID
	for i := 1; i <= most; i++ {
		c := api.Commit{Ev: api.Event{Node: 0, Seq: i}, Gen: i, Parents: parents, Op: inc(1)}
		parents = []api.ID{idOf(c)}
		l, own = append(l, c), append(own, parents[0])
	}
	near := l[:most]
	ev := api.Event{Node: 2, Seq: 1}
	both := func(x, y api.ID) []api.ID {
		if compare(y, x) < 0 {
			x, y = y, x
		}
		return []api.ID{x, y}
	}
	var all sync.WaitGroup
	for _, x := range []struct {
		name string
		f    func() (api.Commit, bool)
		want api.Commit
	}{
		{"the merge behind the greatest but one", func() (api.Commit, bool) { return Head(near) }, api.Commit{Ev: api.Event{Node: -1}, Gen: most, Parents: both(own[0], own[most-1])}},
		{"the commit behind the greatest but one", func() (api.Commit, bool) { return Next(near, ev, inc(1)) }, api.Commit{Ev: ev, Gen: most, Parents: both(own[0], own[most-1]), Op: inc(1)}},
		{"the greatest one", func() (api.Commit, bool) { return Join(l, own[most:]) }, l[most]},
		{"the merge behind the greatest one", func() (api.Commit, bool) { return Head(l) }, api.Commit{}},
		{"the commit behind the greatest one", func() (api.Commit, bool) { return Next(l, ev, inc(1)) }, api.Commit{}},
	} {
		all.Go(func() {
			c, is := x.f()
			if is != (x.want.Gen > 0) || !same([]api.Commit{c}, []api.Commit{x.want}) {
				t.Errorf("%s is %v, %v, want %v", x.name, c, is, x.want)
			}
		})
	}
	all.Wait()
}

// The chapter's example.
func TestExample(t *testing.T) {
	a, b := of(0, 1, 1), of(1, 1, 1)
	for _, l := range [][]api.Commit{{a, b}, {b, a}} {
		c, is := Head(l)
		if !is || !commit.Merge(c) || c.Gen != 2 || !slices.Equal(c.Parents, sorted(a, b)) {
			t.Errorf("Head of two without parents is %v, %v", c, is)
		}
	}
}

// P12.5, P3: the head, byte by byte, in every order.
func TestHeadOrder(t *testing.T) {
	to := chance(37)
	for _, l := range closedLists() {
		if len(l) == 0 {
			continue
		}
		c, is := Head(l)
		want, no := commit.Put(c)
		if !is || no != api.OK {
			t.Errorf("Head(%v) = %v, %v", l, c, is)
		}
		for _, o := range append(orders(l), mixed(l, to)) {
			c, _ := Head(o)
			if got, _ := commit.Put(c); !bytes.Equal(got, want) {
				t.Errorf("Head(%v) is %v in bytes, that of %v is %v", o, got, l, want)
			}
		}
	}
}

// P12.5: what stands behind a head knows all of it.
func TestBehind(t *testing.T) {
	to := chance(41)
	for n := range 120 {
		l := mess(1+to(25), 1+n%8, to)
		for seq := range 3 {
			c, is := Next(l, api.Event{Node: to(8), Seq: 1000 + seq}, inc(1))
			behind := append(slices.Clone(l), c)
			if !is || !dag.Closed(behind) {
				t.Fatalf("%v: %v, %v stands behind it", l, c, is)
			}
			if got := dag.Anc(behind, idsOf(c)); !slices.Equal(got, sorted(behind...)) {
				t.Errorf("%v knows %d of the %d behind which it stands", c, len(got)-1, len(l))
			}
			if head, is := Head(l); !is || head.Ev.Node >= 0 && !slices.Equal(c.Parents, idsOf(head)) || head.Ev.Node < 0 && !slices.Equal(c.Parents, head.Parents) {
				t.Errorf("%v stands not behind the head %v", c, head)
			}
			if head, is := Head(behind); !is || !same([]api.Commit{head}, []api.Commit{c}) || !slices.Equal(Front(behind), idsOf(c)) {
				t.Errorf("the head behind %v is %v, want %v", l, head, c)
			}
			l = mixed(behind, to)
		}
	}
}

// P12.5: Join of two lists, whichever comes first, and what it stands for.
func TestTwo(t *testing.T) {
	to := chance(43)
	for _, l := range closedLists() {
		all := asked(l, to)
		for i, a := range all {
			b := all[(i*7+2)%len(all)]
			one, is := Join(l, append(slices.Clone(a), b...))
			two, isToo := Join(l, append(slices.Clone(b), a...))
			isCommit(t, "Join", l, two, isToo, one, is)
			ends := one.Parents
			if one.Ev.Node >= 0 {
				ends = idsOf(one)
			}
			if got, want := dag.Anc(l, ends), dag.Anc(l, append(slices.Clone(a), b...)); is && !slices.Equal(got, want) {
				t.Errorf("Join of %x and %x in %v stands for %x, want %x", a, b, l, got, want)
			}
		}
	}
}

// spoil changes all that a list has, parents too.
func spoil(l []api.Commit) {
	for i := range l {
		for j := range l[i].Parents {
			l[i].Parents[j][5]++
		}
		l[i].Parents = append(l[i].Parents, api.ID{9})
		l[i].Gen, l[i].Ev.Seq = 99, -7
	}
}

// R3: what is answered is new, parents too, and what is handed in stays, also behind its end.
func TestOwn(t *testing.T) {
	l := eight()
	l = append(l, next(5, 8, l[8]), next(3, 9, l[8]))
	own := idsOf(l...)
	for _, x := range []struct {
		name string
		f    func(l []api.Commit, a []api.ID) []api.Commit
	}{
		{"Join of one", func(l []api.Commit, a []api.ID) []api.Commit { c, _ := Join(l, a[:9]); return []api.Commit{c} }},
		{"Join of several", func(l []api.Commit, a []api.ID) []api.Commit { c, _ := Join(l, a[:7]); return []api.Commit{c} }},
		{"Head of one", func(l []api.Commit, a []api.ID) []api.Commit { c, _ := Head(l[:9]); return []api.Commit{c} }},
		{"Head of several", func(l []api.Commit, a []api.ID) []api.Commit { c, _ := Head(l); return []api.Commit{c} }},
		{"Next", func(l []api.Commit, a []api.ID) []api.Commit {
			c, _ := Next(l, api.Event{Node: 6, Seq: 6}, inc(1))
			return []api.Commit{c}
		}},
		{"Front", func(l []api.Commit, a []api.ID) []api.Commit { return []api.Commit{{Parents: Front(l)}} }},
		{"Base", func(l []api.Commit, a []api.ID) []api.Commit {
			return []api.Commit{{Parents: Base(l, a, a[9:10])}}
		}},
	} {
		room, a := append(clone(l), of(6, 6, 6), of(7, 7, 7)), append(slices.Clone(own), api.ID{1}, api.ID{2})
		keep, keepIds := clone(room), slices.Clone(a)
		got := x.f(room[:len(l)], a[:len(l)])
		want := clone(got)
		if len(got[0].Parents) == 0 || !same(room, keep) || !slices.Equal(a, keepIds) {
			t.Errorf("%s: %v, or what was handed in is changed", x.name, got)
		}
		spoil(room)
		clear(a)
		if !same(got, want) {
			t.Errorf("%s: the answer changes with what was handed in", x.name)
		}
		room, a = clone(keep), slices.Clone(keepIds)
		got = x.f(room[:len(l)], a[:len(l)])
		spoil(got)
		if !same(room, keep) || !slices.Equal(a, keepIds) {
			t.Errorf("%s: what was handed in changes with the answer", x.name)
		}
		if again := x.f(room[:len(l)], a[:len(l)]); !same(again, want) {
			t.Errorf("%s: another answer the next time", x.name)
		}
	}
}

// P1: long lists are answered too.
func TestLong(t *testing.T) {
	to := chance(47)
	l := line(2000, 3, 1)
	side := next(5, 1, l[1500])
	o := mixed(append(slices.Clone(l), side), to)
	if got := Front(o); !slices.Equal(got, sorted(l[1999], side)) {
		t.Errorf("Front is %x", got)
	}
	if c, is := Head(o); !is || c.Gen != 2001 || !slices.Equal(c.Parents, sorted(l[1999], side)) {
		t.Errorf("Head is %v, %v", c, is)
	}
	if got := Base(o, idsOf(side), idsOf(l[1999])); !slices.Equal(got, sorted(l[:1501]...)) {
		t.Errorf("Base are %d", len(got))
	}
	if c, is := Next(o, api.Event{Node: 4, Seq: 1}, inc(1)); !is || c.Gen != 2001 || !slices.Equal(c.Parents, sorted(l[1999], side)) {
		t.Errorf("Next is %v, %v", c, is)
	}
}

// P1, R1, R5: every call ends, none panics, and each answers as the chapter says, whatever it is given.
func TestAny(t *testing.T) {
	to := chance(19)
	texts := []string{"", "a", "A", "abcdefgh", "abcdefghi", "\x00\xff"}
	number := func() int {
		if to(3) == 0 {
			return odd()[to(len(odd()))]
		}
		return to(4)
	}
	for range 4000 {
		var l []api.Commit
		a, b := []api.ID{{}}, []api.ID{{}}
		for range to(6) {
			c := api.Commit{Ev: api.Event{Node: number(), Seq: number()}, Gen: number(), Op: api.Op{Kind: number(), Key: texts[to(6)], Elem: texts[to(6)], N: number()}}
			if to(2) == 0 {
				c.Op = inc(1)
			}
			for range to(3) * to(6) {
				c.Parents = append(c.Parents, []api.ID{{}, {31: byte(to(9))}, {0: byte(to(9))}}[to(3)])
			}
			for _, d := range l {
				if to(2) == 0 {
					c.Parents, c.Gen = append(c.Parents, idOf(d)), max(c.Gen, d.Gen+1)
				}
			}
			slices.SortFunc(c.Parents, compare)
			l, a = append(l, c), append(a, append(c.Parents, idOf(c))...)
			b = append(b, a[to(len(a))])
		}
		checkAll(t, l, a, b, api.Event{Node: number(), Seq: number()}, api.Op{Kind: number(), Key: texts[to(6)], Elem: texts[to(6)], N: number()})
		checkAll(t, l, b, a, api.Event{Node: to(8), Seq: 1 + to(9)}, inc(1))
	}
	for _, n := range odd() {
		for _, m := range odd() {
			checkAll(t, []api.Commit{of(0, 1, 1)}, idsOf(of(0, 1, 1)), nil, api.Event{Node: n, Seq: m}, inc(1))
			checkAll(t, nil, nil, nil, api.Event{Node: n, Seq: m}, api.Op{Kind: m, Key: "a", N: n})
			checkAll(t, []api.Commit{{Ev: api.Event{Node: n, Seq: n}, Gen: m, Op: inc(1)}, of(n, 1, 1), of(0, m, 1), of(0, 1, n)}, []api.ID{{}}, []api.ID{{}}, api.Event{Node: 1, Seq: 1}, inc(1))
		}
	}
}

// P1: parents without end, in a list that is not closed.
func TestWide(t *testing.T) {
	many := make([]api.ID, 100000)
	for i := range many {
		many[i] = api.ID{0: byte(i >> 16), 1: byte(i >> 8), 2: byte(i)}
	}
	var l []api.Commit
	for i := range 10000 {
		l = append(l, api.Commit{Ev: api.Event{Node: 0, Seq: i + 1}, Gen: i + 2, Parents: many, Op: inc(1)})
	}
	c, is := Next(l, api.Event{Node: 1, Seq: 1}, inc(1))
	isCommit(t, "Next", nil, c, is, api.Commit{}, false)
	c, is = Head(l)
	isCommit(t, "Head", nil, c, is, api.Commit{}, false)
	if f, b := Front(l), Base(l, many, many); len(f) != 0 || len(b) != 0 {
		t.Errorf("Front is %x, Base %x", f, b)
	}
}
