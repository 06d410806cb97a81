package branch

import (
	"bytes"
	"crypto/sha256"
	"encoding/binary"
	"math"
	"slices"
	"strconv"
	"strings"
	"testing"

	"anabranch/api"
	"anabranch/commit"
	"anabranch/eval"
	"anabranch/log"
)

const (
	most = 1048576
	sum  = 1073741824
)

// id is of two bytes alone, the first one and the last one.
func id(first, last byte) api.ID { return api.ID{0: first, 31: last} }

// some are n ids that rise.
func some(n int) []api.ID {
	var l []api.ID
	for i := range n {
		l = append(l, id(byte(1+i/3), byte(i%3)))
	}
	return l
}

func inc(n int) api.Op { return api.Op{Kind: 0, Key: "a", N: n} }

func set(key, elem string) api.Op { return api.Op{Kind: 1, Key: key, Elem: elem} }

func add(key, elem string) api.Op { return api.Op{Kind: 2, Key: key, Elem: elem} }

func del(key, elem string) api.Op { return api.Op{Kind: 3, Key: key, Elem: elem} }

// after is a commit of an event, behind ids, of generation 2; without any of generation 1.
func after(node, seq int, parents ...api.ID) api.Commit {
	c := api.Commit{Ev: api.Event{Node: node, Seq: seq}, Gen: 1, Parents: slices.Clone(parents), Op: inc(1)}
	if len(parents) > 0 {
		c.Gen = 2
	}
	slices.SortFunc(c.Parents, compare)
	return c
}

// next is a commit of an event, behind others, of the generation that stands behind these.
func next(node, seq int, l ...api.Commit) api.Commit {
	c := after(node, seq, idsOf(l...)...)
	for _, p := range l {
		c.Gen = max(c.Gen, p.Gen+1)
	}
	return c
}

// mergeOf is a merge of ids.
func mergeOf(gen int, parents ...api.ID) api.Commit {
	c := after(-1, 0, parents...)
	c.Gen, c.Op = gen, api.Op{}
	return c
}

// with is a commit of another operation, asOf one of other parents, in just that order, inGen one of another generation.
func with(c api.Commit, o api.Op) api.Commit {
	c.Op = o
	return c
}

func asOf(c api.Commit, parents ...api.ID) api.Commit {
	c.Parents = parents
	return c
}

func inGen(c api.Commit, gen int) api.Commit {
	c.Gen = gen
	return c
}

func compare(a, b api.ID) int { return bytes.Compare(a[:], b[:]) }

// bytesOf are a commit's bytes, nothing if it has none.
func bytesOf(c api.Commit) []byte {
	b, _ := commit.Put(c)
	return b
}

// idOf is the SHA-256 of a commit's bytes, or noughts if it has none.
func idOf(c api.Commit) api.ID {
	if !commit.May(c) {
		return api.ID{}
	}
	return sha256.Sum256(bytesOf(c))
}

func idsOf(l ...api.Commit) []api.ID {
	var a []api.ID
	for _, c := range l {
		a = append(a, idOf(c))
	}
	return a
}

func clone(l []api.Commit) []api.Commit {
	l = slices.Clone(l)
	for i := range l {
		l[i].Parents = slices.Clone(l[i].Parents)
	}
	return l
}

func equal(a, b api.Commit) bool {
	return a.Ev == b.Ev && a.Gen == b.Gen && a.Op == b.Op && slices.Equal(a.Parents, b.Parents)
}

func same(a, b []api.Commit) bool { return slices.EqualFunc(a, b, equal) }

// chance answers numbers that seem random, the same ones each time.
func chance(seed uint32) func(int) int {
	return func(n int) int {
		seed = seed*1664525 + 1013904223
		return int(seed>>8) % n
	}
}

func mixed[T any](l []T, to func(int) int) []T {
	l = slices.Clone(l)
	for i := range l {
		j := i + to(len(l)-i)
		l[i], l[j] = l[j], l[i]
	}
	return l
}

// orders are all orders of a list.
func orders[T any](l []T) [][]T {
	all := [][]T{{}}
	for _, x := range l {
		var more [][]T
		for _, o := range all {
			for i := range len(o) + 1 {
				more = append(more, slices.Insert(slices.Clone(o), i, x))
			}
		}
		all = more
	}
	return all
}

// without is a list without the one at a place.
func without[T any](l []T, i int) []T { return slices.Concat(l[:i], l[i+1:]) }

// frameOf is the frame of a record, by Go's own varints and SHA-256.
func frameOf(x []byte) []byte {
	mark := sha256.Sum256(x)
	return slices.Concat(binary.AppendUvarint(nil, uint64(len(x))), x, mark[:4])
}

// diskWith is a disk of commits, in their order.
func diskWith(l ...api.Commit) []byte {
	var b []byte
	for _, c := range l {
		b = append(b, frameOf(bytesOf(c))...)
	}
	return b
}

// up is a node that has just these commits, and down one that has them on its disk.
func up(no int, l ...api.Commit) api.Node {
	n := api.Node{No: no, Disk: diskWith(l...), Room: most, L: clone(l), Up: true, Peers: []int{1, 5, 5, -3}, Next: 7, Miss: -2}
	n.Seq = wantLast(l, no)
	return n
}

func down(n api.Node) api.Node {
	n = cloned(n)
	n.L, n.Wait, n.Seq, n.Up = nil, nil, 0, false
	return n
}

// waits is a node for which others wait, roomOf one of another room, atSeq one of another Seq, onDisk one of another disk.
func waits(n api.Node, l ...api.Commit) api.Node {
	n = cloned(n)
	n.Wait = clone(l)
	return n
}

func roomOf(n api.Node, room int) api.Node {
	n.Room = room
	return n
}

func atSeq(n api.Node, seq int) api.Node {
	n.Seq = seq
	return n
}

func onDisk(n api.Node, disk []byte) api.Node {
	n.Disk = disk
	return n
}

func having(n api.Node, l ...api.Commit) api.Node {
	n.L = clone(l)
	return n
}

func cloned(n api.Node) api.Node {
	n.Disk, n.L, n.Wait, n.Peers = slices.Clone(n.Disk), clone(n.L), clone(n.Wait), slices.Clone(n.Peers)
	return n
}

func sameNode(a, b api.Node) bool {
	return a.No == b.No && bytes.Equal(a.Disk, b.Disk) && a.Room == b.Room && same(a.L, b.L) && same(a.Wait, b.Wait) && a.Seq == b.Seq && a.Up == b.Up && slices.Equal(a.Peers, b.Peers) && a.Next == b.Next && a.Miss == b.Miss
}

// told is as much of a node as can be told.
func told(n api.Node) string {
	list := func(l []api.Commit) string {
		var s []string
		for _, c := range l[:min(len(l), 12)] {
			s = append(s, strconv.Itoa(c.Ev.Node)+"."+strconv.Itoa(c.Ev.Seq)+" of "+strconv.Itoa(c.Gen)+" behind "+strconv.Itoa(len(c.Parents)))
		}
		return "[" + strings.Join(s, ", ") + "]"
	}
	return "node " + strconv.Itoa(n.No) + ", " + strconv.Itoa(len(n.Disk)) + " of " + strconv.Itoa(n.Room) + " bytes, has " + strconv.Itoa(len(n.L)) + list(n.L) + ", waits " + strconv.Itoa(len(n.Wait)) + list(n.Wait) + ", Seq " + strconv.Itoa(n.Seq) + ", up " + strconv.FormatBool(n.Up) + ", the rest " + strconv.Itoa(len(n.Peers)) + ", " + strconv.Itoa(n.Next) + ", " + strconv.Itoa(n.Miss)
}

// operations are some that may be, wrong some that may not, each for one cause.
func operations() []api.Op {
	return []api.Op{inc(1), inc(-1), inc(most), inc(-most), set("b", "x"), set("z9", "01234567"), add("abcdefgh", "abcdefgh"), add("a", "y"), del("a", "y"), del("0", "9")}
}

func wrong() []api.Op {
	return []api.Op{{}, {Kind: 4, Key: "a", N: 1}, {Kind: 4, Key: "a", Elem: "x"}, {Kind: -1, Key: "a", N: 1}, {Kind: math.MinInt, Key: "a", N: 1}, {Kind: math.MaxInt, Key: "a", Elem: "x"}, inc(0), inc(most + 1), inc(-most - 1), inc(math.MinInt), inc(math.MaxInt), {Kind: 0, Key: "a", Elem: "x", N: 1}, {Kind: 0, N: 1}, {Kind: 0, Key: "abcdefghi", N: 1}, {Kind: 0, Key: "A", N: 1}, {Kind: 0, Key: "a b", N: 1}, set("", "x"), set("a", ""), {Kind: 1, Key: "a", Elem: "x", N: 1}, {Kind: 2, Key: "a", Elem: "x", N: -1}, add("a", "{"), add("/", "a"), del("a", "abcdefghi"), del("é", "x"), del("a", "\x00")}
}

// bad are commits that may not be, each for one cause.
func bad() []api.Commit {
	a, b := id(1, 0), id(2, 0)
	root, child := after(0, 1), after(0, 1, a)
	l := []api.Commit{
		{},
		// An event that may not be.
		after(8, 1), after(-1, 1), after(-1, 0), after(-2, 1), after(0, 0), after(0, -1), after(0, most+1), after(8, 1, a), after(-1, 1, a, b), after(0, 0, a), after(math.MaxInt, 1), after(math.MinInt, 1), after(0, math.MinInt), after(0, math.MaxInt), after(1<<32, 1),
		// A generation that may not be, or is not that of so many parents.
		inGen(root, 0), inGen(root, -1), inGen(root, 2), inGen(root, math.MaxInt), inGen(child, 0), inGen(child, 1), inGen(child, most+1), inGen(child, math.MinInt), inGen(child, 1<<32+2),
		// Parents that are too many, or do not rise.
		after(0, 1, some(9)...), after(0, 1, some(40)...), asOf(child, a, a), asOf(child, b, a), asOf(child, a, b, b), asOf(child, a, b, id(1, 5)),
		// Merges but for one thing.
		mergeOf(2, a), mergeOf(1, a, b), mergeOf(1), mergeOf(2), mergeOf(most+1, a, b), mergeOf(2, some(9)...), asOf(mergeOf(2, a, b), b, a), with(mergeOf(2, a, b), inc(1)), with(after(0, 0, a, b), api.Op{}), with(after(-1, 1, a, b), api.Op{}),
	}
	for _, o := range wrong() {
		l = append(l, with(root, o), with(child, o))
	}
	return l
}

// merges may be.
func merges() []api.Commit {
	return []api.Commit{mergeOf(2, some(2)...), mergeOf(2, some(8)...), mergeOf(most, some(3)...), mergeOf(2, idsOf(after(0, 1), after(1, 1))...), mergeOf(2, api.ID{}, id(0, 1))}
}

// line are n commits of a node, of a key's counts, one behind the other.
func line(node, n int, o api.Op) []api.Commit {
	var l []api.Commit
	for i := range n {
		c := with(after(node, i+1), o)
		if i > 0 {
			c = with(next(node, i+1, l[i-1]), o)
		}
		l = append(l, c)
	}
	return l
}

// history are commits of several nodes that are closed, as all beginnings of these are.
func history() []api.Commit {
	a, b := after(0, 1), with(after(1, 1), set("b", "x"))
	c := with(next(0, 2, a), add("s", "x"))
	d := with(next(2, 3, a, b), inc(-5))
	e := with(next(1, 2, c, d), del("s", "x"))
	f := with(next(0, 4, d, c), add("s", "x"))
	g := with(next(7, most, b), set("b", "y"))
	return []api.Commit{a, b, c, d, e, f, g}
}

// nodes are some that may be: up and down, with few and more, with some that wait, of rooms that are just enough.
func nodes() []api.Node {
	h := history()
	var l []api.Node
	for no := range 8 {
		l = append(l, up(no), down(up(no)), up(no, h[:1]...), up(no, h...), down(up(no, h...)))
	}
	for n := range h {
		x := up(0, h[:n]...)
		l = append(l, x, roomOf(x, len(x.Disk)), roomOf(x, len(x.Disk)+40), down(x), roomOf(down(x), len(x.Disk)), waits(up(3, h[:n]...), h[n:]...))
	}
	far := after(5, 5, id(9, 9))
	l = append(l, waits(up(0, h...), after(0, 3, id(4, 4)), after(0, 4, id(4, 4)), far), waits(up(4), far, after(3, 3, id(4, 4))))
	// On a disk that is down there may be anything.
	l = append(l, onDisk(down(up(0)), []byte{7, 7, 7}), onDisk(down(up(1)), diskWith(h...)[:100]), onDisk(down(up(2)), diskWith(h[2:]...)))
	return l
}

// wantKnows tells by places who knows whom: parents at first, and then, again and again, what these know.
func wantKnows(l []api.Commit, own []api.ID) [][]bool {
	knows := make([][]bool, len(l))
	for i, c := range l {
		knows[i] = make([]bool, len(l))
		for j := range l {
			knows[i][j] = slices.Contains(c.Parents, own[j])
		}
	}
	for k := range l {
		for i := range l {
			for j := range l {
				knows[i][j] = knows[i][j] || knows[i][k] && knows[k][j]
			}
		}
	}
	return knows
}

// wantParents asks what the chapter of dag does of a commit's parents: all there, none that knows another one, and the generation.
func wantParents(l []api.Commit, own []api.ID, knows [][]bool, c api.Commit) bool {
	gen := 0
	for _, p := range c.Parents {
		i := slices.Index(own, p)
		if i < 0 {
			return false
		}
		gen = max(gen, l[i].Gen)
		for _, q := range c.Parents {
			if j := slices.Index(own, q); j >= 0 && knows[i][j] {
				return false
			}
		}
	}
	return c.Gen == 1+gen
}

func wantClosed(l []api.Commit) bool {
	own := idsOf(l...)
	for i, c := range l {
		if !commit.May(c) || commit.Merge(c) || slices.Index(own, own[i]) != i {
			return false
		}
	}
	knows := wantKnows(l, own)
	for i, c := range l {
		if !wantParents(l, own, knows, c) {
			return false
		}
		for j, d := range l {
			if i != j && c.Ev.Node == d.Ev.Node && c.Ev.Seq >= d.Ev.Seq && !knows[i][j] {
				return false
			}
			if i != j && c.Ev == d.Ev {
				return false
			}
		}
	}
	return true
}

// wantLoad takes records one by one, and asks of each whether it is a commit, and whether all up to it are closed.
func wantLoad(disk []byte) ([]api.Commit, int) {
	records, _ := log.Read(disk)
	var l []api.Commit
	used := 0
	for _, x := range records {
		c, behind, no := commit.Get(x)
		if no != api.OK || len(behind) > 0 || !wantClosed(append(slices.Clip(l), c)) {
			break
		}
		l = append(l, c)
		used += len(frameOf(x))
	}
	return l, used
}

func wantLast(l []api.Commit, no int) int {
	last := 0
	for _, c := range l {
		if c.Ev.Node == no && c.Ev.Seq > last {
			last = c.Ev.Seq
		}
	}
	return last
}

// wantWaits asks what the chapter does of one that is to wait.
func wantWaits(n api.Node, c api.Commit) bool {
	strange := c.Ev.Node != n.No || c.Ev.Seq <= n.Seq
	return commit.May(c) && !commit.Merge(c) && !slices.Contains(idsOf(n.L...), idOf(c)) && strange
}

// wantMay, wantUpdate, wantTake, wantCrash and wantOpen do what the chapter's words say.
func wantMay(n api.Node) bool {
	if n.No < 0 || n.No > 7 || n.Room < 0 || n.Room > most || len(n.Disk) > n.Room {
		return false
	}
	if !n.Up {
		return len(n.L) == 0 && len(n.Wait) == 0 && n.Seq == 0
	}
	l, used := wantLoad(n.Disk)
	if !same(l, n.L) || used != len(n.Disk) || n.Seq != wantLast(l, n.No) || len(n.Wait) > 8 {
		return false
	}
	for _, c := range n.Wait {
		if !wantWaits(n, c) {
			return false
		}
	}
	return true
}

// wantNext stands behind all commits that none has as a parent.
func wantNext(l []api.Commit, ev api.Event, o api.Op) (api.Commit, bool) {
	c := api.Commit{Ev: ev, Gen: 1, Op: o}
	var parents []api.ID
	for _, x := range l {
		c.Gen = max(c.Gen, x.Gen+1)
		parents = append(parents, x.Parents...)
	}
	for _, own := range idsOf(l...) {
		if !slices.Contains(parents, own) {
			c.Parents = append(c.Parents, own)
		}
	}
	slices.SortFunc(c.Parents, compare)
	return c, wantClosed(append(clone(l), c))
}

func wantUpdate(n api.Node, o api.Op) (api.Node, api.Errno) {
	if !wantMay(n) || !commit.May(with(after(0, 1), o)) {
		return api.Node{}, api.ErrArg
	}
	if !n.Up {
		return api.Node{}, api.ErrDown
	}
	counts := o.N
	for _, c := range n.L {
		if c.Op.Kind == 0 && c.Op.Key == o.Key {
			counts += c.Op.N
		}
	}
	c, is := wantNext(n.L, api.Event{Node: n.No, Seq: n.Seq + 1}, o)
	if !is || o.Kind == 0 && (counts < -sum || counts > sum) {
		return api.Node{}, api.ErrOver
	}
	more := diskWith(c)
	if len(n.Disk)+len(more) > n.Room {
		return api.Node{}, api.ErrFull
	}
	n = cloned(n)
	n.Disk, n.L, n.Seq = append(n.Disk, more...), append(n.L, c), n.Seq+1
	return n, api.OK
}

// wantReady is where the first one stands that has all its parents, or below 0.
func wantReady(l []api.Commit, have []api.ID) int {
	return slices.IndexFunc(l, func(c api.Commit) bool {
		return !slices.ContainsFunc(c.Parents, func(p api.ID) bool { return !slices.Contains(have, p) })
	})
}

func wantTake(n api.Node, l []api.Commit) api.Node {
	n = cloned(n)
	if !wantMay(n) || !n.Up {
		return n
	}
	for _, c := range l {
		if !wantWaits(n, c) {
			continue
		}
		if !slices.ContainsFunc(n.Wait, func(x api.Commit) bool { return equal(x, c) }) {
			n.Wait = append(n.Wait, clone([]api.Commit{c})...)
			n.Wait = n.Wait[max(0, len(n.Wait)-8):]
		}
		for i := wantReady(n.Wait, idsOf(n.L...)); i >= 0; i = wantReady(n.Wait, idsOf(n.L...)) {
			x := n.Wait[i]
			n.Wait = without(n.Wait, i)
			if disk := append(n.Disk, diskWith(x)...); wantClosed(append(clone(n.L), x)) && len(disk) <= n.Room {
				n.Disk, n.L = disk, append(n.L, x)
			}
		}
	}
	return n
}

func wantCrash(n api.Node, o api.Op, k int) api.Node {
	n = cloned(n)
	if !wantMay(n) || !n.Up {
		return n
	}
	done, no := wantUpdate(n, o)
	n = down(n)
	if no == api.OK && k > 0 {
		n.Disk = done.Disk[:len(n.Disk)+min(k, len(done.Disk)-len(n.Disk))]
	}
	return n
}

func wantOpen(n api.Node) (api.Node, api.Errno) {
	if !wantMay(n) {
		return api.Node{}, api.ErrArg
	}
	if n.Up {
		return api.Node{}, api.ErrHave
	}
	n = cloned(n)
	l, used := wantLoad(n.Disk)
	n.Up, n.Disk, n.L, n.Seq = true, n.Disk[:used], l, wantLast(l, n.No)
	return n, api.OK
}

// stays asks that a node is as it was.
func stays(t *testing.T, name string, n, was api.Node) {
	t.Helper()
	if !sameNode(n, was) {
		t.Errorf("%s of %s: what was handed in is %s now", name, told(was), told(n))
	}
}

// isMay asks whether a node may be; one that may not be has errors, or stays.
func isMay(t *testing.T, n api.Node, want bool) {
	t.Helper()
	was := cloned(n)
	if got := May(n); got != want {
		t.Errorf("May of %s is %v", told(n), got)
	}
	if !want {
		isUpdate(t, n, inc(1), api.Node{}, api.ErrArg)
		isTake(t, n, history(), n)
		isTake(t, n, nil, n)
		isCrash(t, n, inc(1), 100, n)
		isOpen(t, n, api.Node{}, api.ErrArg)
		isState(t, n, api.State{}, api.ErrArg)
	}
	stays(t, "May", n, was)
}

func isUpdate(t *testing.T, n api.Node, o api.Op, want api.Node, no api.Errno) {
	t.Helper()
	was, want := cloned(n), cloned(want)
	got, is := Update(n, o)
	if is != no || !sameNode(got, want) {
		t.Errorf("Update of %s by %v is %s, %d, want %s, %d", told(n), o, told(got), is, told(want), no)
	}
	if no == api.OK && !May(got) {
		t.Errorf("Update of %s by %v may not be: %s", told(n), o, told(got))
	}
	stays(t, "Update", n, was)
}

func isTake(t *testing.T, n api.Node, l []api.Commit, want api.Node) {
	t.Helper()
	was, list, want := cloned(n), clone(l), cloned(want)
	got := Take(n, l)
	if !sameNode(got, want) {
		t.Errorf("Take of %s of %s is %s, want %s", told(n), told(api.Node{L: l}), told(got), told(want))
	}
	if May(n) && !May(got) {
		t.Errorf("Take of %s of %s may not be: %s", told(n), told(api.Node{L: l}), told(got))
	}
	stays(t, "Take", n, was)
	if !same(l, list) {
		t.Errorf("Take of %s: the commits that were handed in are changed", told(n))
	}
}

func isCrash(t *testing.T, n api.Node, o api.Op, k int, want api.Node) {
	t.Helper()
	was, want := cloned(n), cloned(want)
	got := Crash(n, o, k)
	if !sameNode(got, want) {
		t.Errorf("Crash of %s by %v, %d, is %s, want %s", told(n), o, k, told(got), told(want))
	}
	if May(n) && !May(got) {
		t.Errorf("Crash of %s by %v, %d, may not be: %s", told(n), o, k, told(got))
	}
	stays(t, "Crash", n, was)
}

func isOpen(t *testing.T, n, want api.Node, no api.Errno) {
	t.Helper()
	was, want := cloned(n), cloned(want)
	got, is := Open(n)
	if is != no || !sameNode(got, want) {
		t.Errorf("Open of %s is %s, %d, want %s, %d", told(n), told(got), is, told(want), no)
	}
	if no == api.OK && !May(got) {
		t.Errorf("Open of %s may not be: %s", told(n), told(got))
	}
	stays(t, "Open", n, was)
}

func sameState(a, b api.State) bool {
	return slices.Equal(a.C, b.C) && slices.Equal(a.R, b.R) && slices.Equal(a.P, b.P)
}

func isState(t *testing.T, n api.Node, want api.State, no api.Errno) {
	t.Helper()
	was := cloned(n)
	if got, is := State(n); is != no || !sameState(got, want) {
		t.Errorf("State of %s is %v, %d, want %v, %d", told(n), got, is, want, no)
	}
	stays(t, "State", n, was)
}

// isAsWanted asks what the chapter's words come to.
func isAsWanted(t *testing.T, n api.Node, o api.Op, l []api.Commit, k int) {
	t.Helper()
	isMay(t, n, wantMay(n))
	want, no := wantUpdate(n, o)
	isUpdate(t, n, o, want, no)
	isTake(t, n, l, wantTake(n, l))
	isCrash(t, n, o, k, wantCrash(n, o, k))
	want, no = wantOpen(n)
	isOpen(t, n, want, no)
	switch {
	case !wantMay(n):
		isState(t, n, api.State{}, api.ErrArg)
	case !n.Up:
		isState(t, n, api.State{}, api.ErrDown)
	default:
		s, no := eval.Eval(n.L)
		isState(t, n, s, no)
	}
}

// The tests lean on these being what they are called.
func TestLists(t *testing.T) {
	for _, c := range bad() {
		if commit.May(c) {
			t.Errorf("%v is not bad", c)
		}
	}
	for _, c := range merges() {
		if !commit.Merge(c) {
			t.Errorf("%v is no merge", c)
		}
	}
	for n := range history() {
		if !wantClosed(history()[:n]) {
			t.Errorf("of the history %d are not closed", n)
		}
	}
	for _, o := range operations() {
		if !commit.May(with(after(0, 1), o)) {
			t.Errorf("%v may not be", o)
		}
	}
	for _, o := range wrong() {
		if commit.May(with(after(0, 1), o)) {
			t.Errorf("%v may be", o)
		}
	}
}

// The chapter's example.
func TestExample(t *testing.T) {
	n, is := New(0, most)
	n, no := Update(n, inc(1))
	if !is || no != api.OK {
		t.Fatalf("an Inc of %s has the error %d", told(n), no)
	}
	for k := -1; k < 40; k++ {
		n, no := Open(Crash(n, inc(2), k))
		if no != api.OK || !same(n.L, []api.Commit{after(0, 1)}) || n.Seq != 1 || !n.Up || !bytes.Equal(n.Disk, frameOf([]byte{0, 1, 1, 0, 0, 1, 97, 2})) {
			t.Errorf("behind a crash %d bytes into another one there is %s, %d", k, told(n), no)
		}
		if s, no := State(n); no != api.OK || !sameState(s, api.State{C: []api.Ctr{{Key: "a", N: 1}}}) {
			t.Errorf("behind that crash the state is %v, %d", s, no)
		}
	}
}

// P17.1: numbers and rooms at their bounds, just within and just beyond, and far off.
func TestNew(t *testing.T) {
	numbers := []int{-2, -1, 0, 1, 2, 3, 4, 5, 6, 7, 8, 9, 100, 1 << 32, 1<<32 + 1, -1 << 32, math.MaxInt, math.MinInt}
	rooms := []int{-2, -1, 0, 1, 2, 12, 13, 4096, most / 2, most - 1, most, most + 1, 2 * most, 1 << 32, 1<<32 + 5, math.MaxInt, math.MinInt, -most}
	for _, no := range numbers {
		for _, room := range rooms {
			want, may := api.Node{}, no >= 0 && no <= 7 && room >= 0 && room <= 1048576
			if may {
				want = api.Node{No: no, Room: room, Up: true}
			}
			n, is := New(no, room)
			if is != may || !sameNode(n, want) {
				t.Errorf("New(%d, %d) is %s, %v", no, room, told(n), is)
			}
			// A node of these numbers may be just so.
			isMay(t, api.Node{No: no, Room: room, Up: true}, may)
			isMay(t, api.Node{No: no, Room: room}, may)
		}
	}
}

// P17.1: nodes that may be, whatever Peers, Next and Miss are.
func TestMay(t *testing.T) {
	for _, n := range nodes() {
		isMay(t, n, true)
		for _, x := range []int{0, 1, -1, 8, most, math.MaxInt, math.MinInt} {
			for _, peers := range [][]int{nil, {}, {x}, {x, x, 0}, {7, 6, 5, 4, 3, 2, 1, 0, -1, x}, make([]int, 1000)} {
				m := n
				m.Peers, m.Next, m.Miss = peers, x, -x
				isMay(t, m, true)
			}
		}
		// Lists without elements may be nil or empty.
		m := cloned(n)
		m.Disk, m.L, m.Wait, m.Peers = append([]byte{}, m.Disk...), append([]api.Commit{}, m.L...), append([]api.Commit{}, m.Wait...), []int{}
		for i := range m.L {
			m.L[i].Parents = append([]api.ID{}, m.L[i].Parents...)
		}
		isMay(t, m, true)
	}
}

// P17.1: No and Room, each broken by itself; a disk that is just as long as Room, and longer by one byte.
func TestMayNumbers(t *testing.T) {
	for _, n := range nodes() {
		for _, no := range []int{-1, -8, 8, 9, 1 << 32, n.No + 8, n.No - 8, n.No + 1<<32, math.MaxInt, math.MinInt} {
			m := n
			m.No = no
			isMay(t, m, false)
		}
		for _, room := range []int{-1, -most, most + 1, 2 * most, 1 << 32, 1<<32 + 5, math.MaxInt, math.MinInt} {
			isMay(t, roomOf(n, room), false)
		}
		long := len(n.Disk)
		for _, room := range []int{long, long + 1, most - 1, most} {
			isMay(t, roomOf(n, room), true)
		}
		if long > 0 {
			isMay(t, roomOf(n, long-1), false)
			isMay(t, roomOf(n, 0), false)
			isMay(t, roomOf(n, long/2), false)
		}
	}
	// The greatest disk there may be, of whatever bytes, and one byte more.
	isMay(t, onDisk(down(up(0)), make([]byte, most)), true)
	isMay(t, onDisk(down(up(0)), make([]byte, most+1)), false)
}

// P17.1: of a node that is up, a disk that does not use all its bytes, or of which L tells fewer, more, others, or in another order.
func TestMayDisk(t *testing.T) {
	h := history()
	n := up(0, h...)
	for i := range n.Disk {
		isMay(t, onDisk(n, n.Disk[:i]), false)
		other := slices.Clone(n.Disk)
		other[i] ^= 1
		isMay(t, onDisk(n, other), false)
		// Fewer bytes than the last one has are none of it.
		x := onDisk(up(0, h[:3]...), n.Disk[:i])
		isMay(t, x, i == len(diskWith(h[:3]...)))
	}
	for _, more := range [][]byte{{0}, {255}, {8}, make([]byte, 5), frameOf(nil), frameOf([]byte{1}), diskWith(h[0]), diskWith(h[6]), diskWith(after(0, 4)), frameOf(bytesOf(mergeOf(4, idsOf(h[5], h[6])...))), frameOf(append(bytesOf(next(3, 1, h[5])), 0))} {
		isMay(t, onDisk(n, append(slices.Clone(n.Disk), more...)), false)
		isMay(t, onDisk(n, append(slices.Clone(more), n.Disk...)), false)
	}
	for i, c := range h {
		isMay(t, having(n, without(h, i)...), false)
		isMay(t, onDisk(n, diskWith(without(h, i)...)), false)
		isMay(t, having(n, slices.Insert(clone(h), i, c)...), false)
		isMay(t, having(n, append(clone(h), c)...), false)
		for _, x := range []api.Commit{inGen(c, c.Gen+1), with(c, inc(7)), asOf(c, append(slices.Clone(c.Parents), id(255, 1))...), {}, mergeOf(2, some(2)...)} {
			l := clone(h)
			l[i] = x
			isMay(t, having(n, l...), false)
		}
		ev := clone(h)
		ev[i].Ev.Node ^= 1
		isMay(t, having(n, ev...), false)
		if len(c.Parents) > 0 {
			p := clone(h)
			p[i].Parents[0][31] ^= 1
			isMay(t, having(n, p...), false)
		}
	}
	isMay(t, having(n), false)
	isMay(t, onDisk(n, nil), false)
	isMay(t, having(n, append(clone(h), next(3, 1, h[5]))...), false)
	// Both orders may be on a disk, but L is in the disk's.
	both := []api.Commit{after(1, 1), after(2, 1)}
	isMay(t, up(0, both...), true)
	isMay(t, having(up(0, both...), both[1], both[0]), false)
	isMay(t, onDisk(up(0, both...), diskWith(both[1], both[0])), false)
}

// P17.1: commits that are not closed, for each cause, and stand on the disk so.
func TestMayClosed(t *testing.T) {
	h := history()
	for _, c := range notClosed() {
		isMay(t, up(5, append(clone(h), c)...), false)
		isMay(t, down(up(5, append(clone(h), c)...)), true)
	}
	isMay(t, up(0, h[1], h[3]), false)
	isMay(t, up(0, h[2], h[0]), false)
	isMay(t, up(0, merges()[0]), false)
}

// notClosed are commits that have all parents in the history, and may be, but are not closed with it.
func notClosed() []api.Commit {
	h := history()
	a, b, c, d, e, f, g := h[0], h[1], h[2], h[3], h[4], h[5], h[6]
	return []api.Commit{
		// Another generation.
		inGen(next(4, 1, f), 5), inGen(next(4, 1, f), 3), inGen(next(4, 1, a, b), 3), inGen(next(4, 1, a, d), 1000),
		// A parent that knows another one.
		next(4, 1, a, c), next(4, 1, b, f), next(4, 1, a, b, e), next(4, 1, a, b, c, d, g),
		// An event that there is.
		with(next(0, 1), inc(2)), with(next(0, 2, a), inc(2)), next(1, 2, g), next(2, 3, e, f), next(7, most, g),
		// The node's later one does not know its earlier one, or is not known by it.
		next(0, 1, b), next(0, 3, c), next(0, 5, a), next(0, 5, e), next(1, 1, a), next(1, 3, f), next(2, 4, c), next(2, 1, a), next(7, 1, b), next(7, 3, f), after(7, 2), after(0, 5), after(2, 2),
	}
}

// P17.1: of a node that is up, a Seq that is not Last's.
func TestMaySeq(t *testing.T) {
	for _, n := range nodes() {
		for _, seq := range []int{n.Seq - 1, n.Seq + 1, -1, -n.Seq - 1, n.Seq + 1<<32, most + 1, math.MaxInt, math.MinInt} {
			isMay(t, atSeq(n, seq), false)
		}
	}
	// The greatest one of its own, not how many there are, not the last one, not another node's.
	h := history()
	for no, want := range []int{4, 2, 3, 0, 0, 0, 0, most} {
		n := up(no, h...)
		if n.Seq != want {
			t.Errorf("of node %d the greatest is %d", no, n.Seq)
		}
		for seq := range 10 {
			isMay(t, atSeq(n, seq), seq == want)
		}
		isMay(t, atSeq(n, most), want == most)
	}
}

// P17.1: more than eight that wait; one that waits and may not be, is a merge, is there, is not strange.
func TestMayWait(t *testing.T) {
	h := history()
	n := up(0, h[:4]...)
	var l []api.Commit
	for i := range 12 {
		l = append(l, after(1+i%7, 1+i, id(9, byte(i))))
	}
	for i := range l {
		isMay(t, waits(n, l[:i]...), i <= 8)
		isMay(t, waits(n, slices.Repeat(l[:1], i)...), i <= 8)
	}
	at := func(c api.Commit, may bool) {
		t.Helper()
		isMay(t, waits(n, c), may)
		for _, i := range []int{0, 1, 4, 7} {
			isMay(t, waits(n, slices.Insert(clone(l[:7]), i, c)...), may)
		}
	}
	for _, c := range slices.Concat(bad(), merges(), h[:4]) {
		at(c, false)
	}
	// Those of its own that it is yet to make are not strange; n's Seq is 2.
	for seq, strange := range map[int]bool{1: true, 2: true, 3: false, 4: false, 100: false, most: false} {
		at(after(0, seq, id(9, 0)), strange)
		at(after(0, seq), strange && seq != 1)
		at(after(3, seq, id(9, 0)), true)
		at(after(3, seq), true)
	}
	at(with(h[0], inc(2)), true)
	at(with(h[2], inc(2)), true)
	for _, c := range h[4:] {
		at(c, c.Ev.Node != 0)
	}
	// One that does not fit, and one that need not wait, may wait.
	for _, c := range notClosed() {
		at(c, c.Ev.Node != 0 || c.Ev.Seq <= 2)
	}
	at(next(5, 1, h[3]), true)
	// A node without commits of its own has none that are strange.
	isMay(t, waits(up(0), after(0, 1, id(9, 0))), false)
	isMay(t, waits(up(1), after(0, 1, id(9, 0))), true)
	// A commit with another one's parents is not that one.
	isMay(t, waits(n, inGen(h[3], 3)), true)
}

// P17.1: a node that is not up has nothing in L, in Wait, and in Seq, but anything on its disk.
func TestMayDown(t *testing.T) {
	h := history()
	for _, n := range nodes() {
		x := down(n)
		isMay(t, x, true)
		for _, c := range slices.Concat(h[:2], bad()[:2], merges()[:1]) {
			isMay(t, having(x, c), false)
			isMay(t, waits(x, c), false)
		}
		isMay(t, having(x, h...), false)
		isMay(t, waits(x, after(5, 1, id(9, 9))), false)
		for _, seq := range []int{1, -1, 2, 4, most, math.MaxInt, math.MinInt} {
			isMay(t, atSeq(x, seq), false)
		}
		y := n
		y.Up = false
		isMay(t, y, len(y.L) == 0 && len(y.Wait) == 0 && y.Seq == 0)
		x.L, x.Wait = []api.Commit{}, []api.Commit{}
		isMay(t, x, true)
		for i := range 40 {
			isMay(t, onDisk(roomOf(x, 39), bytes.Repeat([]byte{byte(i * 7)}, i)), true)
		}
	}
}

// P17.2: one operation behind the other, of each kind, from nothing on, and behind a history.
func TestUpdate(t *testing.T) {
	for _, base := range []api.Node{up(0), up(7), up(0, history()...), up(3, history()...), waits(up(0, history()[:4]...), after(5, 1, id(9, 9)), after(0, 1, id(9, 9)))} {
		n := cloned(base)
		l := clone(base.L)
		for i, o := range operations() {
			c, is := wantNext(l, api.Event{Node: base.No, Seq: base.Seq + i + 1}, o)
			if !is {
				t.Fatalf("%v can't be", c)
			}
			l = append(l, c)
			want := cloned(base)
			want.L, want.Disk, want.Seq = l, diskWith(l...), base.Seq+i+1
			isUpdate(t, n, o, want, api.OK)
			n, _ = Update(n, o)
		}
	}
	// By hand: what stands on the disk, and the parents.
	n, _ := New(5, 100)
	n, _ = Update(n, set("b", "x"))
	first := api.Commit{Ev: api.Event{Node: 5, Seq: 1}, Gen: 1, Op: set("b", "x")}
	if !same(n.L, []api.Commit{first}) || n.Seq != 1 || !bytes.Equal(n.Disk, frameOf([]byte{10, 1, 1, 0, 1, 1, 98, 1, 120})) {
		t.Errorf("a Set is %s, %v", told(n), n.Disk)
	}
	n, _ = Update(n, inc(-1))
	own := sha256.Sum256([]byte{10, 1, 1, 0, 1, 1, 98, 1, 120})
	if len(n.L) != 2 || !equal(n.L[1], api.Commit{Ev: api.Event{Node: 5, Seq: 2}, Gen: 2, Parents: []api.ID{own}, Op: inc(-1)}) || n.Seq != 2 {
		t.Errorf("an Inc is %s", told(n))
	}
	// Behind last ones of several nodes it has all of these as parents, up to eight.
	var ends []api.Commit
	for no := range 8 {
		ends = append(ends, after(no, 1))
	}
	for no := range 8 {
		for long := range 9 {
			n := up(no, ends[:long]...)
			got, is := Update(n, add("k", "e"))
			want := with(next(no, n.Seq+1, ends[:long]...), add("k", "e"))
			if is != api.OK || !equal(got.L[long], want) {
				t.Errorf("behind %d an Add is %v, %d", long, got.L[long:], is)
			}
		}
	}
}

// P17.2: operations that may not be, for each cause; a node that is not up; and which error is told where several fit.
func TestUpdateErrors(t *testing.T) {
	for _, n := range nodes() {
		for _, o := range wrong() {
			isUpdate(t, n, o, api.Node{}, api.ErrArg)
			// A node that is not up, and such an operation.
			isUpdate(t, down(n), o, api.Node{}, api.ErrArg)
			isUpdate(t, roomOf(n, len(n.Disk)), o, api.Node{}, api.ErrArg)
			isUpdate(t, roomOf(n, -1), o, api.Node{}, api.ErrArg)
		}
		for _, o := range operations() {
			isUpdate(t, down(n), o, api.Node{}, api.ErrDown)
			isUpdate(t, roomOf(down(n), len(n.Disk)), o, api.Node{}, api.ErrDown)
			isUpdate(t, atSeq(n, -1), o, api.Node{}, api.ErrArg)
			isUpdate(t, atSeq(down(n), 3), o, api.Node{}, api.ErrArg)
			want, no := wantUpdate(n, o)
			isUpdate(t, n, o, want, no)
			if n.Up {
				full := roomOf(n, len(n.Disk))
				is := api.ErrFull
				if n.Seq == most {
					is = api.ErrOver
				}
				isUpdate(t, full, o, api.Node{}, is)
			}
		}
	}
}

// far is a node with a key that counts as far as so many steps, and less, of its own, or of the other one's.
func far(no int, step, less int) api.Node {
	l := line(0, 1024, api.Op{Kind: 0, Key: "far", N: step})
	last := l[1023]
	last.Op.N -= less
	if last.Op.N == 0 {
		return up(no, l[:1023]...)
	}
	return up(no, append(l[:1023], last)...)
}

// P17.2: an Inc by which a key counts just as far as it may, one more, one less, on both sides; and one of another key.
func TestUpdateSum(t *testing.T) {
	count := func(n int) api.Op { return api.Op{Kind: 0, Key: "far", N: n} }
	for _, side := range []int{1, -1} {
		for less, by := range map[int][]int{0: {1, most, -1, -most}, 1: {1, 2, most, -1}, 5: {4, 5, 6, -2}, most: {most - 1, most}} {
			n := far(6*(less%2), side*most, side*less)
			for _, x := range by {
				got, is := Update(n, count(side*x))
				if x <= less && (is != api.OK || len(got.L) != len(n.L)+1) || x > less && (is != api.ErrOver || !sameNode(got, api.Node{})) {
					t.Errorf("%d less than the most: %d more has the error %d", side*less, side*x, is)
				}
			}
		}
		n := far(0, side*most, 0)
		for _, o := range []api.Op{set("far", "x"), add("far", "x"), del("far", "x"), {Kind: 0, Key: "fa", N: side * most}, {Kind: 0, Key: "far0", N: side}} {
			if got, is := Update(n, o); is != api.OK || len(got.L) != len(n.L)+1 {
				t.Errorf("%v of another key has the error %d", o, is)
			}
		}
		// Where there is no room, too, the sum is told.
		full := roomOf(n, len(n.Disk))
		if _, is := Update(full, count(side)); is != api.ErrOver {
			t.Errorf("%d more than may be, and no room, has the error %d", side, is)
		}
		if _, is := Update(full, count(-side)); is != api.ErrFull {
			t.Errorf("%d, and no room, has the error %d", -side, is)
		}
	}
}

// P17.2: a key that counts further than it may, as several nodes counted it, comes back alone.
func TestUpdateFar(t *testing.T) {
	for _, side := range []int{1, -1} {
		n := far(0, side*most, 0)
		n = up(0, append(n.L, with(after(4, 1), api.Op{Kind: 0, Key: "far", N: side * 7}))...)
		for _, by := range []int{-8, -7, -6, -1, 1, most} {
			o := api.Op{Kind: 0, Key: "far", N: side * by}
			_, is := Update(n, o)
			if want := by <= -7; (is == api.OK) != want || !want && is != api.ErrOver {
				t.Errorf("7 further than may be, %v has the error %d", o, is)
			}
		}
		if _, is := Update(n, api.Op{Kind: 0, Key: "far", N: -side * most}); is != api.OK {
			t.Errorf("7 further than may be, far back has the error %d", is)
		}
		// What does not count is not asked for how far that key counts.
		for _, o := range []api.Op{set("far", "x"), add("far", "x"), del("far", "x")} {
			if got, is := Update(n, o); is != api.OK || len(got.L) != len(n.L)+1 {
				t.Errorf("7 further than may be, %v has the error %d", o, is)
			}
		}
	}
	// Of two that take one another back, each one counts.
	l := []api.Commit{with(after(1, 1), inc(most)), with(after(2, 1), inc(-most)), with(after(3, 1), set("a", "x")), with(after(4, 1), add("a", "x"))}
	n := up(0, l...)
	for _, o := range []api.Op{inc(most), inc(-most), inc(1)} {
		want, no := wantUpdate(n, o)
		isUpdate(t, n, o, want, no)
		if no != api.OK {
			t.Errorf("%v has the error %d", o, no)
		}
	}
}

// P17.2: an event of the greatest Seq, and one more.
func TestUpdateSeq(t *testing.T) {
	for _, o := range operations() {
		n := up(2, after(2, most-1), after(3, most))
		want, no := wantUpdate(n, o)
		if no != api.OK || want.L[2].Ev != (api.Event{Node: 2, Seq: most}) {
			t.Fatalf("%s may not have the greatest Seq", told(n))
		}
		isUpdate(t, n, o, want, api.OK)
		isUpdate(t, want, o, api.Node{}, api.ErrOver)
		isUpdate(t, roomOf(want, len(want.Disk)), o, api.Node{}, api.ErrOver)
		isUpdate(t, down(want), o, api.Node{}, api.ErrDown)
		isUpdate(t, up(2, after(2, most)), o, api.Node{}, api.ErrOver)
		// Another node has its own events.
		if got, is := Update(up(4, after(2, most)), o); is != api.OK || got.Seq != 1 {
			t.Errorf("behind another node's last event %v is %s, %d", o, told(got), is)
		}
		// It crashes, and nothing is written.
		for _, k := range []int{0, 1, 50, math.MaxInt} {
			isCrash(t, want, o, k, down(want))
		}
	}
}

// P17.2: a room that is just enough, and one byte less.
func TestUpdateRoom(t *testing.T) {
	for _, base := range nodes() {
		for _, o := range operations() {
			want, no := wantUpdate(roomOf(base, most), o)
			if no != api.OK {
				continue
			}
			long := len(want.Disk)
			for _, room := range []int{long, long + 1, most} {
				isUpdate(t, roomOf(base, room), o, roomOf(want, room), api.OK)
			}
			for _, room := range []int{long - 1, long - 2, len(base.Disk) + 1, len(base.Disk)} {
				isUpdate(t, roomOf(base, room), o, api.Node{}, api.ErrFull)
			}
		}
	}
	// A full one goes on doing what takes less room.
	n, _ := New(0, 13)
	isUpdate(t, n, api.Op{Kind: 0, Key: "ab", N: 1}, api.Node{}, api.ErrFull)
	n, no := Update(n, inc(1))
	if no != api.OK || len(n.Disk) != 13 {
		t.Errorf("13 bytes of room: %s, %d", told(n), no)
	}
	isUpdate(t, n, inc(1), api.Node{}, api.ErrFull)
	n, _ = New(0, 0)
	isUpdate(t, n, inc(1), api.Node{}, api.ErrFull)
}

// took is what a node is once it stands behind more commits, and others wait for it.
func took(n api.Node, more []api.Commit, wait ...api.Commit) api.Node {
	n = cloned(n)
	n.Disk, n.L, n.Wait = append(n.Disk, diskWith(more...)...), append(n.L, clone(more)...), clone(wait)
	return n
}

// P17.3: no commits, one, several; a node that may not be, one that is not up.
func TestTake(t *testing.T) {
	h := history()
	for _, n := range nodes() {
		isTake(t, n, nil, n)
		isTake(t, n, []api.Commit{}, n)
		isTake(t, down(n), h, down(n))
		isTake(t, down(n), []api.Commit{after(3, 3)}, down(n))
		isTake(t, atSeq(n, -1), h, atSeq(n, -1))
		isTake(t, roomOf(n, -1), h, roomOf(n, -1))
		isTake(t, waits(down(n), after(5, 1)), h, waits(down(n), after(5, 1)))
		for i, c := range h {
			isTake(t, n, h[i:i+1], wantTake(n, h[i:i+1]))
			isTake(t, n, h[i:], wantTake(n, h[i:]))
			isTake(t, n, h[:i], wantTake(n, h[:i]))
			isTake(t, n, []api.Commit{c, c}, wantTake(n, []api.Commit{c}))
		}
	}
	// By hand: node 4 takes them one by one, together, and one behind the other.
	n := up(4)
	for i, c := range h {
		next := up(4, h[:i+1]...)
		isTake(t, n, []api.Commit{c}, next)
		isTake(t, n, h[i:], up(4, h...))
		n = Take(n, []api.Commit{c})
	}
	// All that node 4 has stays, and is told once alone.
	isTake(t, n, h, n)
	isTake(t, n, slices.Repeat(h, 3), n)
}

// P17.3: a commit that may not be, for each cause, and a merge: nothing comes of it, and what comes behind it is taken.
func TestTakeBad(t *testing.T) {
	h := history()
	n := waits(up(0, h[:4]...), after(5, 1, id(9, 9)))
	for _, c := range append(bad(), merges()...) {
		isTake(t, n, []api.Commit{c}, n)
		isTake(t, n, []api.Commit{c, c, c}, n)
		isTake(t, n, []api.Commit{c, h[4], c}, took(n, h[4:5], n.Wait...))
		isTake(t, n, []api.Commit{h[4], c, h[5]}, wantTake(n, h[4:6]))
		isTake(t, up(6), []api.Commit{c}, up(6))
	}
	// A merge of what is there all the same.
	merge := mergeOf(4, idsOf(h[2], h[3])...)
	isTake(t, n, []api.Commit{merge}, n)
	isTake(t, n, []api.Commit{merge, next(5, 2, merge)}, waits(n, n.Wait[0], next(5, 2, merge)))
}

// P17.3: one of the node's own that is there no more, of a Seq at most, and above, the node's.
func TestTakeOwn(t *testing.T) {
	h := history()
	n := up(0, h[:4]...)
	// Its Seq is 2. What is strange, and has no parents there, waits; what is not is nothing to it.
	for seq, strange := range map[int]bool{1: true, 2: true, 3: false, 4: false, most: false} {
		c := after(0, seq, id(9, 0))
		if strange {
			isTake(t, n, []api.Commit{c}, waits(n, c))
		} else {
			isTake(t, n, []api.Commit{c}, n)
		}
		isTake(t, n, []api.Commit{after(1, seq, id(9, 0))}, waits(n, after(1, seq, id(9, 0))))
		// Where its parents are there, it would be the event of another one, or not be known by it, and is lost.
		for _, x := range []api.Commit{with(after(0, seq), inc(5)), with(next(0, seq, h[1]), inc(5)), with(next(0, seq, h[0]), inc(5))} {
			isTake(t, n, []api.Commit{x}, n)
		}
		x := next(0, seq, h[2], h[3])
		isTake(t, n, []api.Commit{x}, n)
	}
	// One that has none of its own yet, or has them no more, does not take them back: they would be its next events.
	for i, c := range h {
		got := Take(up(c.Ev.Node, h[:i]...), []api.Commit{c})
		if !sameNode(got, up(c.Ev.Node, h[:i]...)) {
			t.Errorf("node %d takes its own event %v: %s", c.Ev.Node, c.Ev, told(got))
		}
	}
	own := up(0, h[0])
	isTake(t, own, []api.Commit{h[2]}, own)
	isTake(t, own, []api.Commit{h[0]}, own)
	isTake(t, own, []api.Commit{with(h[0], inc(2))}, own)
}

// P17.3: one whose parents are there, are not, are partly, come later, in the same call and in another one.
func TestTakeLater(t *testing.T) {
	a, b := after(0, 1), with(after(1, 1), inc(2))
	both := next(2, 1, a, b)
	n := up(4)
	isTake(t, n, []api.Commit{both}, waits(n, both))
	isTake(t, up(4, a), []api.Commit{both}, waits(up(4, a), both))
	isTake(t, up(4, b), []api.Commit{both}, waits(up(4, b), both))
	isTake(t, up(4, a, b), []api.Commit{both}, up(4, a, b, both))
	isTake(t, n, []api.Commit{both, a}, waits(up(4, a), both))
	isTake(t, n, []api.Commit{both, b, a}, up(4, b, a, both))
	isTake(t, n, []api.Commit{a, both, b}, up(4, a, b, both))
	isTake(t, waits(n, both), []api.Commit{a, b}, up(4, a, b, both))
	isTake(t, waits(n, both), []api.Commit{a}, waits(up(4, a), both))
	isTake(t, waits(up(4, a), both), []api.Commit{b}, up(4, a, b, both))
	isTake(t, waits(up(4, a), both), nil, waits(up(4, a), both))
	// Several that wait for one go in the order in which they came.
	var l []api.Commit
	for _, no := range []int{5, 3, 7, 1, 2, 6} {
		l = append(l, next(no, 1, a))
	}
	other := with(after(0, 9), add("k", "e"))
	isTake(t, waits(n, l...), []api.Commit{a}, took(n, append([]api.Commit{a}, l...)))
	isTake(t, n, append(clone(l), a), took(n, append([]api.Commit{a}, l...)))
	isTake(t, waits(n, l...), []api.Commit{other}, took(n, []api.Commit{other}, l...))
}

// P17.3: a row of which each waits for the one ahead, given in each order, in one call and in several.
func TestTakeOrders(t *testing.T) {
	row := []api.Commit{after(0, 1)}
	for i := range 4 {
		row = append(row, with(next(i%3, i+2, row[i]), operations()[i]))
	}
	for _, n := range []api.Node{up(5), up(5, after(7, 3))} {
		want := took(n, row)
		for _, o := range orders(row) {
			isTake(t, n, o, want)
			x := n
			for _, c := range o {
				x = Take(x, []api.Commit{c, c})
			}
			if !sameNode(x, want) {
				t.Errorf("one by one %s is %s", told(api.Node{L: o}), told(x))
			}
			isTake(t, n, append(clone(o), o...), want)
		}
	}
	// Of the history all come, in each order, however they stand then.
	h := history()[:6]
	for i, o := range orders(h) {
		if i%7 > 0 {
			continue
		}
		isTake(t, up(6), o, wantTake(up(6), o))
		if got := Take(up(6), o); len(got.L) != 6 || len(got.Wait) != 0 {
			t.Errorf("of %s there are %s", told(api.Node{L: o}), told(got))
		}
	}
}

// P17.3: more than eight that wait: the oldest one is gone.
func TestTakeMany(t *testing.T) {
	n := up(0)
	var l []api.Commit
	for i := range 30 {
		l = append(l, after(1+i%7, 1+i, id(9, byte(i))))
	}
	for i := range l {
		isTake(t, n, l[:i], waits(n, l[max(0, i-8):i]...))
		if i >= 8 {
			isTake(t, waits(n, l[i-8:i]...), l[i:i+1], waits(n, l[i-7:i+1]...))
			// What waits, is there already, or may not be, lets none of them go.
			isTake(t, waits(n, l[i-8:i]...), slices.Concat(l[i-8:i], bad(), merges()), waits(n, l[i-8:i]...))
		}
	}
	// One that need not wait comes behind eight, too: it goes at once, but the oldest one is gone all the same.
	free := after(3, 3)
	isTake(t, waits(n, l[:8]...), []api.Commit{free}, took(n, []api.Commit{free}, l[1:8]...))
	isTake(t, waits(n, l[:7]...), []api.Commit{free}, took(n, []api.Commit{free}, l[:7]...))
	// A row of ten, given from its end on: the last two of it are gone.
	row := line(2, 10, inc(1))
	back := clone(row)
	slices.Reverse(back)
	isTake(t, n, back, took(n, row[:8]))
	isTake(t, n, append(back, back...), took(n, row))
}

// P17.3: one that is ready, but is not closed with the others, for each cause: it is lost, and what waits behind it waits on.
func TestTakeLost(t *testing.T) {
	h := history()
	for _, n := range []api.Node{up(5, h...), waits(up(6, h...), after(3, 3, id(9, 9))), waits(up(3, h...), next(6, 1, after(6, 9)))} {
		for _, c := range notClosed() {
			child, free := next(4, 9, c), next(6, 4, h[1])
			isTake(t, n, []api.Commit{c}, n)
			isTake(t, n, []api.Commit{c, c}, n)
			isTake(t, n, []api.Commit{c, child}, waits(n, append(clone(n.Wait), child)...))
			isTake(t, n, []api.Commit{child, c, child}, waits(n, append(clone(n.Wait), child)...))
			isTake(t, n, []api.Commit{c, free}, wantTake(n, []api.Commit{free}))
			isTake(t, waits(n, c), []api.Commit{h[0]}, waits(n, c))
			isTake(t, waits(n, c, child), []api.Commit{after(1, 77, id(8, 8))}, waits(n, child, after(1, 77, id(8, 8))))
		}
	}
	// One that fits waits behind one that does not: it goes all the same.
	bad, good := inGen(next(4, 1, h[5]), 5), next(4, 1, h[5])
	isTake(t, waits(up(5, h[:5]...), bad, good), h[5:6], up(5, append(clone(h[:6]), good)...))
	isTake(t, waits(up(5, h[:5]...), good, bad), h[5:6], up(5, append(clone(h[:6]), good)...))
	// Two of one event: the first one that is ready stands.
	x, y := with(good, inc(7)), with(good, inc(8))
	isTake(t, up(5, h...), []api.Commit{x, y}, up(5, append(clone(h), x)...))
	isTake(t, up(5, h...), []api.Commit{y, x}, up(5, append(clone(h), y)...))
	isTake(t, waits(up(5, h[:5]...), y, x), h[5:6], up(5, append(clone(h[:6]), y)...))
	// It may be lost now, and stand later: what is behind its node's earlier one comes when that is there.
	first, second := after(6, 1), next(6, 2, after(6, 1))
	isTake(t, up(5), []api.Commit{next(6, 2, after(1, 1)), first, second}, waits(up(5, first, second), next(6, 2, after(1, 1))))
}

// P17.3: one for which there is no room, and one behind it.
func TestTakeRoom(t *testing.T) {
	a, b := after(0, 1), with(after(1, 1), inc(2))
	big, deep := next(0, 2, a), next(0, 3, next(0, 2, a))
	long := len(diskWith(a))
	for room := range 120 {
		n := roomOf(up(4), room)
		for _, l := range [][]api.Commit{{a}, {a, b}, {a, big}, {a, big, b}, {big, a, b}, {a, big, deep, b}, {deep, big, a, b}, {deep, b, big, a, a, b, big, deep}, {a, deep, big}, history(), slices.Concat(history(), history())} {
			isTake(t, n, l, wantTake(n, l))
		}
	}
	n := roomOf(up(4), 2*long)
	isTake(t, n, []api.Commit{a, big, b}, roomOf(up(4, a, b), 2*long))
	isTake(t, n, []api.Commit{a, big, deep, b}, roomOf(waits(up(4, a, b), deep), 2*long))
	isTake(t, n, []api.Commit{deep, big, a, b}, roomOf(waits(up(4, a, b), deep), 2*long))
	isTake(t, roomOf(up(4), long-1), []api.Commit{a, b}, roomOf(up(4), long-1))
	isTake(t, roomOf(up(4), 0), []api.Commit{a, b, big}, waits(roomOf(up(4), 0), big))
	isTake(t, roomOf(up(4, a), long), []api.Commit{b, big, deep}, waits(roomOf(up(4, a), long), deep))
	for _, less := range []int{0, 1} {
		all := up(4, history()...)
		room := len(all.Disk) - less
		want := all
		if less > 0 {
			want = up(4, history()[:6]...)
		}
		isTake(t, roomOf(up(4), room), history(), roomOf(want, room))
	}
}

// P17.3: only behind one that was put those that wait are asked for.
func TestTakePut(t *testing.T) {
	a, b := after(0, 1), with(after(1, 1), inc(2))
	child, x := next(2, 1, a), after(3, 3)
	n := waits(up(4, b), child, a)
	isMay(t, n, true)
	for _, l := range [][]api.Commit{nil, {b}, {b, b}, bad(), merges(), {after(4, 1)}, {next(4, 1, b)}} {
		isTake(t, n, l, n)
	}
	isTake(t, n, []api.Commit{x}, up(4, b, a, child, x))
	isTake(t, n, []api.Commit{b, x}, up(4, b, a, child, x))
	isTake(t, n, []api.Commit{after(3, 3, id(9, 9))}, waits(up(4, b, a, child), after(3, 3, id(9, 9))))
	// One that is the same as one that waits is put, too, as far as it can be.
	isTake(t, n, []api.Commit{a}, up(4, b, a, child))
	isTake(t, n, []api.Commit{child}, up(4, b, a, child))
	// Of those that wait twice one is there, and the other one is lost.
	isTake(t, waits(up(4), a, a, child, a), []api.Commit{x}, up(4, a, child, x))
	isTake(t, waits(up(4), child, child), []api.Commit{a}, up(4, a, child))
	isTake(t, waits(up(4), child, child), []api.Commit{x}, waits(up(4, x), child, child))
}

// P17.4: k below nought, nought, each byte of what the disk would have more, all of these, and more; an operation that has an error.
func TestCrash(t *testing.T) {
	for i, n := range nodes() {
		for j, o := range append(operations(), wrong()...) {
			done, no := wantUpdate(n, o)
			if no != api.OK && j%5 > 0 {
				continue
			}
			size := max(0, len(done.Disk)-len(n.Disk))
			ks := []int{math.MinInt, -most, -1, 0, 1, size / 2, size - 1, size, size + 1, 1 << 32, math.MaxInt - 1, math.MaxInt}
			for k := range size + 2 {
				if (i+j)%10 == 0 {
					ks = append(ks, k)
				}
			}
			for _, k := range ks {
				want := down(n)
				switch {
				case !n.Up:
					want = n
				case no == api.OK && k > 0:
					want.Disk = done.Disk[:len(n.Disk)+min(k, size)]
				}
				isCrash(t, n, o, k, want)
			}
		}
	}
	// By hand.
	n := up(3, after(0, 1))
	more := frameOf(bytesOf(with(next(3, 1, after(0, 1)), set("b", "x"))))
	for k := range more {
		isCrash(t, n, set("b", "x"), k, onDisk(down(n), slices.Concat(n.Disk, more[:k])))
	}
	isCrash(t, n, set("b", "x"), len(more)+1, onDisk(down(n), slices.Concat(n.Disk, more)))
	isCrash(t, n, set("b", ""), 7, down(n))
}

// P17.4: of an operation that has an error, for each of these, nothing is on the disk; a node that may not be stays.
func TestCrashErrors(t *testing.T) {
	n := up(0, history()...)
	full := far(0, most, 0)
	for _, k := range []int{-1, 0, 1, 13, 45, 1000, math.MaxInt, math.MinInt} {
		for _, o := range wrong() {
			isCrash(t, n, o, k, down(n))
		}
		if got := Crash(full, api.Op{Kind: 0, Key: "far", N: 1}, k); !sameNode(got, down(full)) {
			t.Errorf("one more than may be, and %d bytes: %s", k, told(got))
		}
		last := up(7, history()...)
		isCrash(t, last, inc(1), k, down(last))
		for room := len(n.Disk); room < len(n.Disk)+60; room++ {
			isCrash(t, roomOf(n, room), inc(1), k, wantCrash(roomOf(n, room), inc(1), k))
		}
		isCrash(t, roomOf(n, len(n.Disk)), inc(1), k, down(roomOf(n, len(n.Disk))))
		for _, m := range []api.Node{atSeq(n, 3), roomOf(n, most+1), onDisk(n, n.Disk[1:]), waits(n, api.Commit{}), having(n), atSeq(down(n), 1), {No: 8, Up: true}, waits(down(n), after(5, 1)), down(n), down(up(1))} {
			isCrash(t, m, inc(1), k, m)
		}
	}
}

// P17.4: a node that may not be, one that is up; a disk that was cut at each of its bytes, one with nothing.
func TestOpen(t *testing.T) {
	h := history()
	for _, n := range nodes() {
		for _, m := range []api.Node{roomOf(n, -1), roomOf(n, most+1), atSeq(n, -1), atSeq(n, n.Seq+1), waits(n, api.Commit{}), having(n, append(clone(n.L), after(5, 5))...)} {
			isOpen(t, m, api.Node{}, api.ErrArg)
		}
		if n.Up {
			isOpen(t, n, api.Node{}, api.ErrHave)
			want := cloned(n)
			want.Wait = nil
			isOpen(t, down(n), want, api.OK)
		} else {
			want, no := wantOpen(n)
			isOpen(t, n, want, no)
		}
	}
	for no := range 8 {
		whole := 0
		for i := range diskWith(h...) {
			if whole < len(h) && i == len(diskWith(h[:whole+1]...)) {
				whole++
			}
			isOpen(t, onDisk(down(up(no)), diskWith(h...)[:i]), up(no, h[:whole]...), api.OK)
		}
		isOpen(t, down(up(no)), up(no), api.OK)
		isOpen(t, roomOf(down(up(no)), 0), roomOf(up(no), 0), api.OK)
	}
	// What stands behind something that is none, or is not closed, is gone.
	n := down(up(0))
	for _, c := range notClosed() {
		isOpen(t, onDisk(n, diskWith(append(append(clone(h), c), after(3, 9))...)), up(0, h...), api.OK)
	}
	for _, more := range [][]byte{{0}, {255, 255}, frameOf(nil), frameOf(append(bytesOf(h[5]), 0)), frameOf(bytesOf(mergeOf(3, idsOf(h[2], h[3])...))), make([]byte, 100)} {
		isOpen(t, onDisk(n, slices.Concat(diskWith(h[:5]...), more, diskWith(h[5:]...))), up(0, h[:5]...), api.OK)
	}
	for at := range diskWith(h...) {
		spoilt := diskWith(h...)
		spoilt[at] ^= 64
		want, no := wantOpen(onDisk(n, spoilt))
		isOpen(t, onDisk(n, spoilt), want, no)
	}
}

// P17.4, P4: what is opened, crashes in each way, and is opened again, has all that it had, and goes on.
func TestOpenAgain(t *testing.T) {
	n, _ := New(2, 4096)
	n.Peers, n.Next, n.Miss = []int{1}, 5, 3
	n = Take(n, history()[:4])
	for i := range 300 {
		o := operations()[i%10]
		done, no := Update(n, o)
		if no != api.OK {
			break
		}
		size := len(done.Disk) - len(n.Disk)
		k := i*7%(size+3) - 1
		again, no := Open(Crash(n, o, k))
		want := n
		if k >= size {
			want = done
		}
		if no != api.OK || !sameNode(again, want) {
			t.Fatalf("%s crashes %d of %d bytes into %v, and is %s, %d", told(n), k, size, o, told(again), no)
		}
		// The next one has the event of the one that was torn.
		next, no := Update(again, o)
		if no == api.OK && next.L[len(next.L)-1].Ev != (api.Event{Node: 2, Seq: want.Seq + 1}) {
			t.Fatalf("behind a crash there is %v", next.L[len(next.L)-1])
		}
		n = again
		if i%3 == 0 {
			n = done
		}
	}
	if len(n.Disk) < 4000 {
		t.Errorf("the disk was not full: %s", told(n))
	}
}

// P17.5: each error; no commits, and several; by hand.
func TestState(t *testing.T) {
	h := history()
	c := []api.Ctr{{Key: "a", N: 1}}
	all := api.State{
		C: []api.Ctr{{Key: "a", N: -4}},
		R: []api.Reg{{Key: "b", Elem: "y", Gen: 2, Ev: api.Event{Node: 7, Seq: most}}},
		P: []api.Pair{{Key: "s", Elem: "x", Ev: api.Event{Node: 0, Seq: 4}}},
	}
	b := []api.Reg{{Key: "b", Elem: "x", Gen: 1, Ev: api.Event{Node: 1, Seq: 1}}}
	s := []api.Pair{{Key: "s", Elem: "x", Ev: api.Event{Node: 0, Seq: 2}}}
	for no := range 8 {
		isState(t, up(no), api.State{}, api.OK)
		isState(t, up(no, h[0]), api.State{C: c}, api.OK)
		isState(t, up(no, h[:2]...), api.State{C: c, R: b}, api.OK)
		isState(t, up(no, h[:3]...), api.State{C: c, R: b, P: s}, api.OK)
		isState(t, up(no, h[:5]...), api.State{C: all.C, R: b}, api.OK)
		isState(t, up(no, h...), all, api.OK)
		// What waits does not count.
		isState(t, waits(up(no, h...), after((no+1)%8, 1, id(9, 9))), all, api.OK)
		isState(t, down(up(no, h...)), api.State{}, api.ErrDown)
		isState(t, down(up(no)), api.State{}, api.ErrDown)
		isState(t, atSeq(up(no, h...), 77), api.State{}, api.ErrArg)
		isState(t, atSeq(down(up(no, h...)), 77), api.State{}, api.ErrArg)
		isState(t, having(up(no, h...), h[1:]...), api.State{}, api.ErrArg)
	}
	for _, n := range nodes() {
		if n.Up {
			want, no := eval.Eval(n.L)
			isState(t, n, want, no)
		} else {
			isState(t, n, api.State{}, api.ErrDown)
		}
	}
	// As far as it may.
	if s, no := State(far(3, most, 0)); no != api.OK || len(s.C) != 1 || s.C[0].N != sum {
		t.Errorf("the most that may be counted is %v, %d", s.C, no)
	}
}

// flock are nodes that do operations, take one another's commits, crash, and are opened again.
type flock struct {
	nodes []api.Node
	// had is what each node's disk had when it was told last, and torn the commit that was under way in a crash.
	had   [][]api.Commit
	torn  []api.Commit
	event map[api.Event]api.ID
	done  int
}

// keep asks that a node may be, has all that it had, in order, and that no event is that of two commits.
func (f *flock) keep(t *testing.T, i int) {
	t.Helper()
	n := f.nodes[i]
	if !May(n) || !wantMay(n) {
		t.Fatalf("%s may not be", told(n))
	}
	if !n.Up {
		return
	}
	had := f.had[i]
	if len(n.L) < len(had) || !same(n.L[:len(had)], had) {
		t.Fatalf("%s had %s", told(n), told(api.Node{L: had}))
	}
	f.had[i] = clone(n.L)
	for _, c := range n.L {
		own := idOf(c)
		if other, is := f.event[c.Ev]; is && other != own {
			t.Fatalf("%v is the event of two commits", c.Ev)
		}
		f.event[c.Ev] = own
	}
}

func (f *flock) do(t *testing.T, i int, o api.Op) {
	t.Helper()
	n := f.nodes[i]
	isAsWanted(t, n, o, nil, 9)
	done, no := Update(n, o)
	if no != api.OK {
		return
	}
	if len(done.L) != len(n.L)+1 || done.L[len(n.L)].Op != o || done.L[len(n.L)].Ev != (api.Event{Node: i, Seq: n.Seq + 1}) {
		t.Fatalf("%v of %s is %s", o, told(n), told(done))
	}
	f.nodes[i] = done
	f.done++
}

func (f *flock) crash(t *testing.T, i int, o api.Op, k int) {
	t.Helper()
	n := f.nodes[i]
	done, no := Update(n, o)
	isCrash(t, n, o, k, wantCrash(n, o, k))
	f.nodes[i] = Crash(n, o, k)
	if no == api.OK {
		f.torn[i] = done.L[len(n.L)]
	}
}

// open asks that at most the operation that was under way is there more.
func (f *flock) open(t *testing.T, i int) {
	t.Helper()
	n := f.nodes[i]
	want, no := wantOpen(n)
	isOpen(t, n, want, no)
	if n.Up {
		return
	}
	f.nodes[i], _ = Open(n)
	l, had := f.nodes[i].L, f.had[i]
	if !same(l, had) && !same(l, append(clone(had), f.torn[i])) {
		t.Fatalf("opened, %s had %s", told(f.nodes[i]), told(api.Node{L: had}))
	}
}

// P17.6, P4, P5: whatever is done, nodes that may be stay so; behind a crash each one has all that it had, in order, and at most that operation more; no event comes twice.
func TestFollows(t *testing.T) {
	crashes, taken, waited := 0, 0, 0
	for seed := range uint32(40) {
		to := chance(seed)
		f := flock{event: map[api.Event]api.ID{}}
		for i := range 2 + to(3) {
			n, _ := New(i, 300+to(2000))
			f.nodes, f.had, f.torn = append(f.nodes, n), append(f.had, nil), append(f.torn, api.Commit{})
		}
		for range 60 {
			i, j := to(len(f.nodes)), to(len(f.nodes))
			switch to(12) {
			case 0, 1, 2:
				f.do(t, i, operations()[to(10)])
			case 3, 4, 5, 6, 7, 8:
				l := mixed(f.nodes[j].L, to)[:min(len(f.nodes[j].L), to(7))]
				l = append(clone(l), f.nodes[i].Wait...)
				isTake(t, f.nodes[i], l, wantTake(f.nodes[i], l))
				was := len(f.nodes[i].L)
				f.nodes[i] = Take(f.nodes[i], l)
				taken += len(f.nodes[i].L) - was
				waited += len(f.nodes[i].Wait)
			case 9:
				f.crash(t, i, operations()[to(10)], to(80)-5)
				crashes++
			case 10, 11:
				f.open(t, i)
			}
			f.keep(t, i)
		}
	}
	if crashes < 100 || taken < 200 || waited < 100 {
		t.Errorf("%d crashes, %d were taken, %d waited", crashes, taken, waited)
	}
}

// spoil changes all that a node has, and has room for, behind the ends of its lists, too.
func spoil(n api.Node) {
	n.Disk, n.Peers = n.Disk[:cap(n.Disk)], n.Peers[:cap(n.Peers)]
	for i := range n.Disk {
		n.Disk[i] ^= 0x5a
	}
	for i := range n.Peers {
		n.Peers[i] ^= 0x5a
	}
	spoilCommits(n.L)
	spoilCommits(n.Wait)
}

func spoilCommits(l []api.Commit) {
	l = l[:cap(l)]
	for i := range l {
		p := l[i].Parents[:cap(l[i].Parents)]
		for j := range p {
			p[j][0] ^= 0x5a
		}
		l[i] = api.Commit{Gen: 77}
	}
}

// roomy are commits with room behind them, and behind their parents, in which something stands; roomyNode is a node with such lists.
func roomy(l []api.Commit) []api.Commit {
	all := append(clone(l), history()[2:5]...)
	for i := range all {
		p := append(slices.Clone(all[i].Parents), id(55, 0), id(55, 1))
		all[i].Parents = p[:len(all[i].Parents)]
	}
	return all[:len(l)]
}

func roomyNode(n api.Node) api.Node {
	n.L, n.Wait = roomy(n.L), roomy(n.Wait)
	n.Disk = append(slices.Clone(n.Disk), bytes.Repeat([]byte{66}, 300)...)[:len(n.Disk)]
	n.Peers = append(slices.Clone(n.Peers), 66, 67)[:len(n.Peers)]
	return n
}

// whole is a copy of commits, and of what stands in the room behind them, and behind their parents; wholeNode of a node's.
func whole(l []api.Commit) []api.Commit {
	l = slices.Clone(l[:cap(l)])
	for i := range l {
		l[i].Parents = slices.Clone(l[i].Parents[:cap(l[i].Parents)])
	}
	return l
}

func wholeNode(n api.Node) api.Node {
	n.L, n.Wait = whole(n.L), whole(n.Wait)
	n.Disk, n.Peers = slices.Clone(n.Disk[:cap(n.Disk)]), slices.Clone(n.Peers[:cap(n.Peers)])
	return n
}

// R3, R5: what is handed in stays, with its parents and disks, also behind its end; what is answered is new, and the next answer is the same.
func TestOwn(t *testing.T) {
	calls := map[string]func(n api.Node, l []api.Commit) api.Node{
		"Update": func(n api.Node, _ []api.Commit) api.Node {
			n, _ = Update(n, add("s", "q"))
			return n
		},
		"Take":  Take,
		"Crash": func(n api.Node, _ []api.Commit) api.Node { return Crash(n, inc(1), 20) },
		"Open": func(n api.Node, _ []api.Commit) api.Node {
			n, _ = Open(n)
			return n
		},
	}
	h := history()
	lists := [][]api.Commit{nil, h, {h[1], h[0], h[5]}, {after(5, 1, id(9, 9)), after(6, 1, id(9, 9)), h[0]}, {after(3, 8, some(8)...)}}
	for name, f := range calls {
		for _, was := range append(nodes(), atSeq(up(1, h...), 99), waits(up(1, h...), bad()...), having(down(up(1)), h...)) {
			for _, list := range lists {
				n, l := roomyNode(was), roomy(list)
				keepN, keepL := wholeNode(n), whole(l)
				stays := func() bool { return sameNode(wholeNode(n), keepN) && same(whole(l), keepL) }
				first := f(n, l)
				want := cloned(first)
				if !stays() {
					t.Fatalf("%s of %s changes what is handed in", name, told(was))
				}
				spoil(first)
				if !stays() {
					t.Fatalf("%s of %s: what is answered is a part of what is handed in", name, told(was))
				}
				second := f(n, l)
				if !sameNode(second, want) {
					t.Fatalf("%s of %s is %s the second time, %s the first time", name, told(was), told(second), told(want))
				}
				spoil(n)
				spoilCommits(l)
				if !sameNode(second, want) {
					t.Fatalf("%s of %s: what was handed in is a part of what is answered", name, told(was))
				}
			}
		}
	}
	// No two lists of one answer share anything: spoiling the ones leaves the others.
	n := Take(waits(up(4, h[:4]...), after(5, 1, idOf(h[0]), id(9, 9))), []api.Commit{h[4], h[5], after(6, 1, id(9, 9))})
	want := cloned(n)
	spoilCommits(n.Wait)
	if !same(n.L, want.L) || !bytes.Equal(n.Disk, want.Disk) || len(want.Wait) != 2 {
		t.Errorf("what waits is a part of what is there")
	}
	// Peers stay, and are the caller's own.
	for _, x := range []api.Node{up(1, h...), down(up(1, h...)), atSeq(up(1), 4)} {
		got := Take(x, h)
		if !slices.Equal(got.Peers, []int{1, 5, 5, -3}) || got.Next != 7 || got.Miss != -2 {
			t.Errorf("Take of %s is %s", told(x), told(got))
		}
	}
}

// R3, R5: what may be, and the state, are asked for without a change.
func TestOwnState(t *testing.T) {
	for _, was := range nodes() {
		n := roomyNode(was)
		keep := wholeNode(n)
		may := May(n)
		s, no := State(n)
		for i := range s.C {
			s.C[i].N ^= 1
		}
		for i := range s.R {
			s.R[i].Gen ^= 1
		}
		for i := range s.P {
			s.P[i].Key = "spoilt"
		}
		again, is := State(n)
		want, _ := eval.Eval(was.L)
		if !sameNode(wholeNode(n), keep) || !may || !May(n) || is != no || !sameState(again, want) {
			t.Errorf("State of %s is %v the second time, %v", told(was), again, want)
		}
	}
}

// P1: a disk that is as long as may be, of whatever bytes and of commits; what is done there ends soon.
func TestLong(t *testing.T) {
	l := line(0, 3000, api.Op{Kind: 1, Key: "abcdefgh", Elem: "abcdefgh"})
	n := up(0, l...)
	if !May(n) {
		t.Fatalf("%s may not be", told(n))
	}
	done, no := Update(n, inc(1))
	if no != api.OK || len(done.L) != 3001 {
		t.Errorf("behind many an Inc has the error %d", no)
	}
	if again, no := Open(Crash(n, inc(1), 40)); no != api.OK || !sameNode(again, n) {
		t.Errorf("opened, many are %s, %d", told(again), no)
	}
	if s, no := State(done); no != api.OK || len(s.R) != 1 || len(s.C) != 1 {
		t.Errorf("the state of many is %v, %d", s, no)
	}
	for _, x := range [][]byte{make([]byte, most), bytes.Repeat([]byte{255}, most), bytes.Repeat(frameOf(nil), most/5), bytes.Repeat(diskWith(after(0, 1)), most/13)} {
		n := onDisk(down(up(3)), x)
		if again, no := Open(n); !May(n) || no != api.OK || len(again.L) > 1 {
			t.Errorf("of %d bytes there is %s, %d", len(x), told(again), no)
		}
		n.Up = true
		if May(n) {
			t.Errorf("%s may be", told(n))
		}
	}
	// Many that are taken, in order and from the last one on; ever more that wait.
	row := line(1, 300, inc(1))
	if got := Take(up(0), row); !sameNode(got, up(0, row...)) {
		t.Errorf("of 300 there are %s", told(got))
	}
	slices.Reverse(row)
	if got := Take(up(0), row); len(got.L) != 8 || len(got.Wait) != 0 {
		t.Errorf("of 300, from the last one on, there are %s", told(got))
	}
	var far []api.Commit
	for i := range 3000 {
		far = append(far, after(1+i%7, i+1, id(byte(i), byte(i>>8))))
	}
	if got := Take(up(0), far); !same(got.Wait, far[2992:]) || len(got.L) != 0 {
		t.Errorf("of 3000 that wait there are %s", told(got))
	}
}

// oddNode is a node of which something is as it should not be, or all is.
func oddNode(to func(int) int) api.Node {
	from := nodes()
	n := cloned(from[to(len(from))])
	h := history()
	odd := []int{-1, 0, 1, 2, 7, 8, most, most + 1, math.MaxInt, math.MinInt}
	for range to(4) {
		switch to(10) {
		case 0:
			n.No = odd[to(len(odd))]
		case 1:
			n.Room = odd[to(len(odd))]
		case 2:
			n.Disk = n.Disk[:to(len(n.Disk)+1)]
		case 3:
			n.Disk = append(n.Disk, diskWith(h[to(7)])...)
		case 4:
			n.L = append(n.L, h[to(7)])
		case 5:
			n.L = n.L[:to(len(n.L)+1)]
		case 6:
			n.Wait = append(n.Wait, slices.Concat(h, bad()[:4], merges()[:1])[to(12)])
		case 7:
			n.Seq = odd[to(len(odd))]
		case 8:
			n.Up = !n.Up
		case 9:
			n.Peers, n.Next, n.Miss = odd[:to(len(odd))], odd[to(len(odd))], odd[to(len(odd))]
		}
	}
	return n
}

// P1, R1, R2: any arguments, also odd ones: no call panics, and each answers what the chapter's words come to.
func TestAny(t *testing.T) {
	to := chance(17)
	may, not := 0, 0
	all := slices.Concat(history(), history(), history(), bad(), merges(), notClosed(), line(3, 4, inc(2)), line(4, 12, inc(-1)))
	ops := append(operations(), wrong()...)
	odd := []int{math.MinInt, -1, 0, 1, 2, 12, 13, 40, 44, 45, 46, 47, 60, 1000, math.MaxInt}
	for range 2500 {
		n := oddNode(to)
		var l []api.Commit
		for range to(9) {
			l = append(l, all[to(len(all))])
		}
		isAsWanted(t, n, ops[to(len(ops))], l, odd[to(len(odd))])
		if May(n) {
			may++
		} else {
			not++
		}
	}
	if may < 300 || not < 300 {
		t.Errorf("%d may be, %d may not", may, not)
	}
}
