package store

import (
	"bytes"
	"crypto/sha256"
	"encoding/binary"
	"maps"
	"math"
	"slices"
	"testing"

	"anabranch/api"
	"anabranch/commit"
	"anabranch/dag"
	"anabranch/log"
)

const most = 1048576

func inc(n int) api.Op { return api.Op{Kind: 0, Key: "a", N: n} }

// of is a commit of a generation, behind others, whatever their own ones are.
func of(node, seq, gen int, parents ...api.Commit) api.Commit {
	c := api.Commit{Ev: api.Event{Node: node, Seq: seq}, Gen: gen, Op: inc(1)}
	for _, p := range parents {
		c.Parents = append(c.Parents, idOf(p))
	}
	slices.SortFunc(c.Parents, compare)
	return c
}

// next is a commit of the generation that stands behind others.
func next(node, seq int, parents ...api.Commit) api.Commit {
	gen := 0
	for _, p := range parents {
		gen = max(gen, p.Gen)
	}
	return of(node, seq, gen+1, parents...)
}

// mergeOf is a merge of others.
func mergeOf(parents ...api.Commit) api.Commit {
	c := next(-1, 0, parents...)
	c.Op = api.Op{}
	return c
}

// with is a commit of another operation.
func with(c api.Commit, o api.Op) api.Commit {
	c.Op = o
	return c
}

func compare(a, b api.ID) int { return bytes.Compare(a[:], b[:]) }

// bytesOf are a commit's bytes, nothing if it has none.
func bytesOf(c api.Commit) []byte {
	b, _ := commit.Put(c)
	return b
}

// idOf is the SHA-256 of a commit's bytes, or noughts if it has none.
func idOf(c api.Commit) api.ID {
	if !commit.May(c) {
		return api.ID{}
	}
	return sha256.Sum256(bytesOf(c))
}

func idsOf(l ...api.Commit) []api.ID {
	var a []api.ID
	for _, c := range l {
		a = append(a, idOf(c))
	}
	return a
}

func clone(l []api.Commit) []api.Commit {
	l = slices.Clone(l)
	for i := range l {
		l[i].Parents = slices.Clone(l[i].Parents)
	}
	return l
}

func same(a, b []api.Commit) bool {
	return slices.EqualFunc(a, b, func(x, y api.Commit) bool {
		return x.Ev == y.Ev && x.Gen == y.Gen && x.Op == y.Op && slices.Equal(x.Parents, y.Parents)
	})
}

// chance answers numbers that seem random, the same ones each time.
func chance(seed uint32) func(int) int {
	return func(n int) int {
		seed = seed*1664525 + 1013904223
		return int(seed>>8) % n
	}
}

func mixed[T any](l []T, to func(int) int) []T {
	l = slices.Clone(l)
	for i := range l {
		j := i + to(len(l)-i)
		l[i], l[j] = l[j], l[i]
	}
	return l
}

// orders are all orders of a short list, and some of a longer one.
func orders[T any](l []T) [][]T {
	if len(l) > 4 {
		back := slices.Clone(l)
		slices.Reverse(back)
		all, to := [][]T{l, back}, chance(uint32(len(l)))
		for range 10 {
			all = append(all, mixed(l, to))
		}
		return all
	}
	all := [][]T{{}}
	for _, x := range l {
		var more [][]T
		for _, o := range all {
			for i := range len(o) + 1 {
				more = append(more, slices.Insert(slices.Clone(o), i, x))
			}
		}
		all = more
	}
	return all
}

// frameOf is the frame of a record, by Go's own varints and SHA-256.
func frameOf(x []byte) []byte {
	sum := sha256.Sum256(x)
	return slices.Concat(binary.AppendUvarint(nil, uint64(len(x))), x, sum[:4])
}

// diskOf is a disk of such records.
func diskOf(records ...[]byte) []byte {
	var b []byte
	for _, x := range records {
		b = append(b, frameOf(x)...)
	}
	return b
}

// diskWith is a disk of such commits, in their order.
func diskWith(l ...api.Commit) []byte {
	var records [][]byte
	for _, c := range l {
		records = append(records, bytesOf(c))
	}
	return diskOf(records...)
}

// wantKnows tells by places who knows whom: parents at first, and then, again and again, what these know.
func wantKnows(l []api.Commit, own []api.ID) [][]bool {
	knows := make([][]bool, len(l))
	for i, c := range l {
		knows[i] = make([]bool, len(l))
		for j := range l {
			knows[i][j] = slices.Contains(c.Parents, own[j])
		}
	}
	for k := range l {
		for i := range l {
			for j := range l {
				knows[i][j] = knows[i][j] || knows[i][k] && knows[k][j]
			}
		}
	}
	return knows
}

// wantParents asks what the chapter of dag does of a commit's parents: all there, none that knows another one, and the generation.
func wantParents(l []api.Commit, own []api.ID, knows [][]bool, c api.Commit) bool {
	gen := 0
	for _, p := range c.Parents {
		i := slices.Index(own, p)
		if i < 0 {
			return false
		}
		gen = max(gen, l[i].Gen)
		for _, q := range c.Parents {
			if j := slices.Index(own, q); j >= 0 && knows[i][j] {
				return false
			}
		}
	}
	return c.Gen == 1+gen
}

func wantClosed(l []api.Commit) bool {
	own := idsOf(l...)
	for i, c := range l {
		if !commit.May(c) || commit.Merge(c) || slices.Index(own, own[i]) != i {
			return false
		}
	}
	knows := wantKnows(l, own)
	for i, c := range l {
		if !wantParents(l, own, knows, c) {
			return false
		}
		for j, d := range l {
			if i != j && c.Ev.Node == d.Ev.Node && c.Ev.Seq >= d.Ev.Seq && !knows[i][j] {
				return false
			}
			if i != j && c.Ev == d.Ev {
				return false
			}
		}
	}
	return true
}

// wantLoad takes records one by one, and asks of each whether it is a commit, and whether all up to it are closed.
func wantLoad(disk []byte) ([]api.Commit, int) {
	records, _ := log.Read(disk)
	var l []api.Commit
	used := 0
	for _, x := range records {
		c, behind, no := commit.Get(x)
		if no != api.OK || len(behind) > 0 || !wantClosed(append(slices.Clip(l), c)) {
			break
		}
		l = append(l, c)
		used += len(frameOf(x))
	}
	return l, used
}

// short is as much of bytes as can be told.
func short(b []byte) []byte { return b[:min(len(b), 60)] }

// isLoaded asks that of a disk these commits are loaded, that have so many bytes, which it is opened as.
func isLoaded(t *testing.T, disk []byte, want []api.Commit, size int) {
	t.Helper()
	keep := slices.Clone(disk)
	l, used := Load(disk)
	if !same(l, want) || used != size {
		t.Errorf("Load of %d bytes, %v, is %d commits, %v, %d, want %d, %v, %d", len(disk), short(disk), len(l), l, used, len(want), want, size)
	}
	o := Open(disk)
	if !bytes.Equal(o, keep[:size]) {
		t.Errorf("Open of %d bytes, %v, is %d bytes, %v, want %d", len(disk), short(disk), len(o), short(o), size)
	}
	// What is opened is so again, and has the same commits.
	if again := Open(o); !bytes.Equal(again, o) {
		t.Errorf("Open of %v, which is opened, is %v", short(o), short(again))
	}
	if l, used := Load(o); !same(l, want) || used != size {
		t.Errorf("Load of %v, which is opened, is %v, %d, want %v, %d", short(o), l, used, want, size)
	}
	if !dag.Closed(l) {
		t.Errorf("Load of %v is %v, which is not closed", short(disk), l)
	}
	if !bytes.Equal(disk, keep) {
		t.Errorf("%v: what was handed in is changed", short(keep))
	}
}

// isAsWanted asks what the chapter's words come to.
func isAsWanted(t *testing.T, disk []byte) {
	t.Helper()
	l, used := wantLoad(disk)
	isLoaded(t, disk, l, used)
}

// upTo asks that of a disk the first n of some commits are loaded, and nothing else, whatever stands behind these.
func upTo(t *testing.T, n int, l ...api.Commit) {
	t.Helper()
	disk, fine := diskWith(l...), diskWith(l[:n]...)
	isLoaded(t, disk, l[:n], len(fine))
	isAsWanted(t, disk)
}

// isPut asks for a frame of a commit behind what was there.
func isPut(t *testing.T, disk []byte, room int, c api.Commit) {
	t.Helper()
	got, no := Put(disk, room, c)
	if want := slices.Concat(disk, frameOf(bytesOf(c))); no != api.OK || !bytes.Equal(got, want) {
		t.Errorf("Put of %v behind %d bytes, %d is %v, %v, want %v", c, len(disk), room, short(got), no, short(want))
	}
}

// isNot asks for an error, and for nothing beside it.
func isNot(t *testing.T, disk []byte, room int, c api.Commit, want api.Errno) {
	t.Helper()
	if got, no := Put(disk, room, c); no != want || len(got) != 0 {
		t.Errorf("Put of %v behind %d bytes, %d is %v, %v, want nothing and %v", c, len(disk), room, short(got), no, want)
	}
}

// line are n commits, each behind the one ahead, of several nodes in turn, with Seqs left out.
func line(n, nodes, step int) []api.Commit {
	l := []api.Commit{of(0, step, 1)}
	for i := 1; i < n; i++ {
		l = append(l, next(i%nodes, step*(i+1), l[i-1]))
	}
	return l
}

// eight are of eight nodes without parents, and one behind all of them.
func eight() []api.Commit {
	var l []api.Commit
	for node := range 8 {
		l = append(l, of(node, 1, 1))
	}
	return append(l, next(3, 2, l...))
}

// mess is a closed list of n commits, each behind its parents: each node knows some, and now and then all that another one does.
func mess(n, nodes int, to func(int) int) []api.Commit {
	var l []api.Commit
	knows := make([]map[int]bool, nodes)
	seq := make([]int, nodes)
	for i := range knows {
		knows[i] = map[int]bool{}
	}
	for len(l) < n {
		who := to(nodes)
		if to(2) == 0 {
			maps.Copy(knows[who], knows[to(nodes)])
			continue
		}
		seq[who] += 1 + to(3)
		last := maps.Clone(knows[who])
		for i := range knows[who] {
			for j := range knows[who] {
				if slices.Contains(l[i].Parents, idOf(l[j])) {
					delete(last, j)
				}
			}
		}
		var parents []api.Commit
		for i := range last {
			parents = append(parents, l[i])
		}
		knows[who][len(l)] = true
		l = append(l, with(next(who, seq[who], parents...), some(to)))
	}
	return l
}

// operations are some that may be.
func operations() []api.Op {
	return []api.Op{inc(1), inc(-most), {Kind: 1, Key: "b", Elem: "x"}, {Kind: 2, Key: "abcdefgh", Elem: "abcdefgh"}, {Kind: 3, Key: "a", Elem: "y"}, inc(most)}
}

func some(to func(int) int) api.Op { return operations()[to(len(operations()))] }

// closedLists are closed, of all shapes, each commit behind its parents.
func closedLists() [][]api.Commit {
	a, b, c := of(0, 1, 1), of(1, 1, 1), of(2, 5, 1)
	left, right := next(0, 2, a), next(1, 1, a)
	deep := next(0, 3, left)
	lists := [][]api.Commit{
		nil, {a}, {c}, {of(7, most, 1)}, {a, b}, {a, b, c},
		{a, left}, {a, left, deep}, {a, left, right}, {a, left, right, next(2, 1, left, right)},
		{a, left, deep, right, next(1, 9, deep, right)}, {a, b, next(0, 2, a), next(1, 2, b)},
		{a, b, next(0, 2, a, b), next(1, 2, a, b)}, {a, b, c, next(1, 2, a, b), next(2, 6, b, c)},
		line(2, 1, 1), line(5, 1, 3), line(6, 2, 1), line(9, 3, 2), line(12, 8, 1), eight(), eight()[:8],
	}
	to := chance(11)
	for n := 2; n < 16; n++ {
		lists = append(lists, mess(n, 1+n%8, to))
	}
	return lists
}

// badCommits may not be.
func badCommits() []api.Commit {
	a, b := of(0, 1, 1), of(1, 1, 1)
	nine := next(0, 2, append(eight(), of(7, 7, 1))...)
	falling := next(0, 2, a, b)
	slices.Reverse(falling.Parents)
	l := []api.Commit{
		{}, nine, falling, with(mergeOf(a, b), inc(1)), mergeOf(a),
		// An event, or a generation, that may not be.
		of(8, 1, 1), of(-1, 1, 1), of(-1, 0, 1), of(-2, 1, 1), of(0, 0, 1), of(0, -1, 1), of(0, most+1, 1), of(0, 1, 0), of(0, 1, 2), of(0, 1, 1, a), of(0, 2, most+1, a), of(0, 2, 2, a, a),
		of(math.MaxInt, 1, 1), of(math.MinInt, 1, 1), of(0, math.MinInt, math.MinInt), of(0, 1, math.MaxInt),
	}
	// An operation that may not be.
	for _, o := range []api.Op{{}, {Kind: 4, Key: "a", N: 1}, {Kind: -1, Key: "a", N: 1}, inc(0), inc(most + 1), inc(math.MinInt), {Kind: 0, Key: "a", Elem: "x", N: 1}, {Kind: 0, Key: "abcdefghi", N: 1}, {Kind: 1, Key: "", Elem: "x"}, {Kind: 1, Key: "A", Elem: "x"}, {Kind: 1, Key: "a"}, {Kind: 2, Key: "a", Elem: "x", N: 1}, {Kind: 3, Key: "a", Elem: "abcdefghi"}} {
		l = append(l, with(a, o))
	}
	return l
}

// noDisks are bytes that begin with no frame.
func noDisks() [][]byte {
	whole := diskWith(of(0, 1, 1))
	spoilt := slices.Clone(whole)
	spoilt[len(spoilt)-1]++
	return [][]byte{{0}, {255}, {0, 227, 176, 196, 67}, whole[:len(whole)-1], whole[:1], whole[1:], spoilt, append(spoilt, whole...), make([]byte, 300), bytes.Repeat([]byte{255}, 300), frameOf(make([]byte, 4001)), frameOf(make([]byte, 70000))}
}

// disks are such as may be put behind: with nothing, with commits, with what is torn, or no commit, and with anything.
func disks() [][]byte {
	all := append([][]byte{nil, {}, diskOf(nil), diskOf([]byte("abc"), nil)}, noDisks()...)
	for i, l := range closedLists() {
		b := diskWith(l...)
		all = append(all, b, b[:len(b)-min(i, len(b))], append(b, noDisks()[i%len(noDisks())]...))
	}
	return all
}

// The chapter's example.
func TestExample(t *testing.T) {
	for _, disk := range [][]byte{nil, {}, make([]byte, 0, 100)} {
		if l, used := Load(disk); len(l) != 0 || used != 0 {
			t.Errorf("an empty disk has %v, %d", l, used)
		}
		isLoaded(t, disk, nil, 0)
	}
}

// P15.1, P15.2: a disk, byte by byte.
func TestBytes(t *testing.T) {
	a := of(0, 1, 1)
	disk, no := Put([]byte{}, 13, a)
	if want := []byte{8, 0, 1, 1, 0, 0, 1, 97, 2, 6, 64, 136, 69}; no != api.OK || !bytes.Equal(disk, want) {
		t.Errorf("a disk of one commit is %v, %v, want %v", disk, no, want)
	}
	isLoaded(t, disk, []api.Commit{a}, 13)
	two, no := Put(disk, 58, next(1, 1, a))
	own := idOf(a)
	if want := slices.Concat(disk, []byte{40, 2, 1, 2, 1}, own[:], []byte{0, 1, 97, 2}); no != api.OK || len(two) != 58 || !bytes.HasPrefix(two, want) {
		t.Errorf("a disk of two commits is %v, %v, want %v, and a sum", two, no, want)
	}
	isLoaded(t, two, []api.Commit{a, next(1, 1, a)}, 58)
	isNot(t, disk, 57, next(1, 1, a), 4)
	isNot(t, nil, 12, a, 4)
}

// P15.1: whatever commit may be, whatever stands on the disk, and of a room that is just enough, or is not.
func TestPut(t *testing.T) {
	a, b := of(0, 1, 1), of(1, 1, 1)
	l := append(eight(), a, next(7, most, a, b), of(3, 9, most, a), of(5, 5, 900, b), mergeOf(a, b), mergeOf(eight()[:8]...))
	for _, o := range operations() {
		l = append(l, with(a, o), with(next(2, 2, a, b), o))
	}
	for _, disk := range disks() {
		for _, c := range l {
			frame := frameOf(bytesOf(c))
			enough := len(disk) + len(frame)
			for _, room := range []int{enough, enough + 1, enough + most, 1 << 40, math.MaxInt} {
				isPut(t, disk, room, c)
			}
			for _, room := range []int{enough - 1, enough - 4, len(disk) + 1, len(disk), len(frame) - 1, 1, 0, -1, -enough, -1 << 40, math.MinInt} {
				isNot(t, disk, room, c, 4)
			}
		}
	}
}

// P15.1, R2: a commit that may not be is told ahead of a room that there is not.
func TestPutBad(t *testing.T) {
	for _, disk := range disks() {
		for _, c := range badCommits() {
			for _, room := range []int{math.MaxInt, most, len(disk) + 400, len(disk), 1, 0, -1, math.MinInt} {
				isNot(t, disk, room, c, 1)
			}
		}
	}
}

// P15.2: all that is closed, with each commit behind its parents; in other orders what stands ahead of the first one that is not.
func TestLoad(t *testing.T) {
	for _, l := range closedLists() {
		upTo(t, len(l), l...)
		for _, o := range orders(l) {
			isAsWanted(t, diskWith(o...))
			isAsWanted(t, append(diskWith(o...), diskOf(nil, []byte("abc"))...))
		}
	}
}

// P15.2: whatever stands behind commits that is none, and whatever stands behind that.
func TestBehind(t *testing.T) {
	a := of(0, 1, 1)
	b := next(1, 1, a)
	var no [][]byte
	for _, x := range [][]byte{nil, {0}, []byte("abc"), {0, 1, 1, 0, 0, 1, 97}, make([]byte, 100), make([]byte, 4000), idSlice(a), diskWith(a), {14, 1, 1, 0, 0, 1, 97, 2, 0}} {
		no = append(no, frameOf(x))
	}
	// Records of a commit, and something more behind it, or ahead.
	for _, c := range []api.Commit{b, of(2, 1, 1), of(0, 1, 1)} {
		for _, more := range [][]byte{{0}, {1}, {255}, bytesOf(of(3, 1, 1)), bytesOf(c)} {
			no = append(no, frameOf(append(bytesOf(c), more...)), frameOf(append(slices.Clone(more), bytesOf(c)...)))
		}
		no = append(no, frameOf(bytesOf(c)[1:]), frameOf(bytesOf(c)[:len(bytesOf(c))-1]))
	}
	no = append(no, noDisks()...)
	for _, l := range [][]api.Commit{nil, {a}, {a, b}, {a, next(2, 1, a)}, line(5, 2, 1)} {
		fine := diskWith(l...)
		for _, x := range no {
			for _, behind := range [][]byte{nil, diskWith(of(4, 1, 1)), diskWith(l...), diskWith(of(4, 1, 1), next(4, 2, of(4, 1, 1)))} {
				disk := slices.Concat(fine, x, behind)
				isLoaded(t, disk, l, len(fine))
				isAsWanted(t, disk)
			}
		}
	}
}

func idSlice(c api.Commit) []byte {
	own := idOf(c)
	return own[:]
}

// P15.2: each cause why commits are not closed, alone, and with more behind it, that would be fine.
func TestStops(t *testing.T) {
	a, b, c := of(0, 1, 1), of(1, 1, 1), of(2, 1, 1)
	left, right := next(0, 2, a), next(1, 2, b)
	deep := next(0, 3, left)
	other := with(a, inc(2))
	for _, x := range []struct {
		n int
		l []api.Commit
	}{
		// A merge.
		{2, []api.Commit{a, b, mergeOf(a, b)}}, {0, []api.Commit{mergeOf(a, b)}}, {1, []api.Commit{a, mergeOf(a, b), b}}, {5, append(eight()[:5], mergeOf(eight()[:5]...))},
		// A parent that is not there, or one of two.
		{0, []api.Commit{left}}, {1, []api.Commit{a, deep}}, {1, []api.Commit{b, left}}, {2, []api.Commit{a, left, next(1, 1, left, c)}}, {1, []api.Commit{a, next(2, 2, a, b)}}, {0, []api.Commit{next(2, 2, mergeOf(a, b))}},
		// A parent that stands behind alone.
		{0, []api.Commit{left, a}}, {1, []api.Commit{a, deep, left}}, {2, []api.Commit{a, b, deep, left, right}}, {0, []api.Commit{deep, left, a}}, {1, []api.Commit{a, next(2, 1, a, b), b}}, {2, []api.Commit{a, left, next(2, 1, left, right), b, right}},
		// One that stands twice.
		{1, []api.Commit{a, a}}, {2, []api.Commit{a, b, a}}, {2, []api.Commit{a, left, left}}, {1, []api.Commit{a, a, left}}, {3, []api.Commit{a, left, deep, a}}, {3, []api.Commit{a, left, deep, left}},
		// Two of one event, at the same place, behind others, and one behind the other.
		{1, []api.Commit{a, other}}, {2, []api.Commit{a, b, other}}, {1, []api.Commit{a, next(0, 1, a)}}, {3, []api.Commit{a, b, left, next(0, 2, b)}}, {3, []api.Commit{a, b, left, next(0, 2, a, b)}}, {2, []api.Commit{a, left, with(left, inc(3))}}, {2, []api.Commit{b, right, with(right, inc(3)), next(1, 3, right)}},
		// A generation that is too great, or too small.
		{1, []api.Commit{a, of(0, 2, 3, a)}}, {1, []api.Commit{a, of(0, 2, most, a)}}, {2, []api.Commit{a, left, of(0, 3, 2, left)}}, {2, []api.Commit{a, left, of(0, 3, 4, left)}}, {3, []api.Commit{a, left, b, of(2, 1, 2, left, b)}},
		// A parent that another one knows, straight, and by others.
		{2, []api.Commit{a, left, next(1, 1, a, left)}}, {3, []api.Commit{a, left, deep, next(1, 1, a, deep)}}, {3, []api.Commit{a, left, deep, next(1, 1, left, deep)}},
		// Of one node the later one does not know the earlier one, or stands ahead of it.
		{1, []api.Commit{a, of(0, 2, 1)}}, {2, []api.Commit{a, b, of(1, 7, 1)}}, {2, []api.Commit{a, b, next(0, 2, b)}}, {2, []api.Commit{a, left, next(0, 3, a)}},
		{1, []api.Commit{of(0, 2, 1), a}}, {1, []api.Commit{of(0, 2, 1), next(0, 1, of(0, 2, 1))}}, {2, []api.Commit{b, of(0, 9, 2, b), of(0, 8, 1)}},
	} {
		upTo(t, x.n, x.l...)
		upTo(t, x.n, append(slices.Clone(x.l), of(5, 1, 1), next(5, 2, of(5, 1, 1)))...)
		ahead := []api.Commit{of(6, 1, 1), next(6, 4, of(6, 1, 1))}
		upTo(t, x.n+2, append(ahead, x.l...)...)
	}
}

// P15.2: one cause among many commits, at each place.
func TestStopsAt(t *testing.T) {
	to := chance(5)
	for n := 4; n < 16; n += 3 {
		l := mess(n, 4, to)
		strange := of(7, 1, 1)
		for i := range n + 1 {
			for _, x := range []api.Commit{of(7, 1, 5, l[0]), next(7, 1, l[0], strange), mergeOf(l[0], strange), of(7, 1, most, l[0]), next(6, 1, strange)} {
				upTo(t, i, slices.Insert(slices.Clone(l), i, x)...)
			}
			if i < n {
				// Its parents are fine, but what is behind it asks for what is not there.
				isAsWanted(t, diskWith(slices.Delete(slices.Clone(l), i, i+1)...))
				upTo(t, i+1, slices.Insert(slices.Clone(l), i, l[i])...)
			}
			fine, behind := diskWith(l[:i]...), diskWith(l[i:]...)
			isLoaded(t, slices.Concat(fine, frameOf([]byte{1}), behind), l[:i], len(fine))
		}
	}
}

// candidates are commits of which some together are closed, and some not for one cause or several.
func candidates() []api.Commit {
	a, b, c := of(0, 1, 1), of(1, 1, 1), of(0, 2, 1)
	l := []api.Commit{a, b, c, of(2, 1, 1), next(0, 2, a), next(0, 1, a), next(0, 3, c), next(1, 1, a), next(1, 2, a, b), of(1, 2, 3, a)}
	return append(l, next(0, 3, l[4]), next(2, 1, a, l[4]), next(2, 1, b, l[4]), next(1, 3, l[8]), mergeOf(a, b))
}

// P15.2: all rows of up to three commits out of some, and some longer ones.
func TestShort(t *testing.T) {
	from := candidates()
	count := make([]int, 9)
	check := func(l []api.Commit) {
		disk := diskWith(l...)
		want, used := wantLoad(disk)
		isLoaded(t, disk, want, used)
		count[len(want)]++
	}
	check(nil)
	for _, x := range from {
		check([]api.Commit{x})
		for _, y := range from {
			check([]api.Commit{x, y})
			for _, z := range from {
				check([]api.Commit{x, y, z})
			}
		}
	}
	to := chance(21)
	for range 6000 {
		check(mixed(from, to)[:4+to(5)])
	}
	for n := range 5 {
		if count[n] < 10 {
			t.Errorf("of %v disks so many commits were loaded", count)
		}
	}
}

// P15.2, P15.4: closed lists of which one commit was changed, taken away, doubled, put in, or moved.
func TestChanged(t *testing.T) {
	to := chance(7)
	whole := 0
	for n := range 3000 {
		l := mess(1+to(9), 1+to(5), to)
		i, j := to(len(l)), to(len(l))
		c := l[i]
		switch n % 8 {
		case 0:
			l = slices.Delete(l, i, i+1)
		case 1:
			l = slices.Insert(l, j, c)
		case 2:
			l[i].Gen += 1 - 2*to(2)
		case 3:
			l[i].Ev.Seq += to(7) - 3
		case 4:
			l[i].Ev.Node = to(8)
		case 5:
			l = append(l, next(to(5), 1+to(30), c, l[j]))
		case 6:
			l = slices.Insert(l, j, next(to(5), 1+to(30), c))
		case 7:
			l[i], l[j] = l[j], l[i]
		}
		disk := diskWith(l...)
		got, _ := Load(disk)
		if len(got) == len(l) {
			whole++
		}
		isAsWanted(t, disk)
		isAsWanted(t, disk[:to(len(disk)+1)])
	}
	if whole < 300 || whole > 2700 {
		t.Errorf("%d of the disks are fine", whole)
	}
}

// P15.4, P4: whatever a disk is cut to, what is loaded is a beginning of what was, as much as was whole.
func TestCut(t *testing.T) {
	a := of(0, 1, 1)
	left := next(0, 2, a)
	lists := append(closedLists(), []api.Commit{a, left, left, next(0, 3, left)}, []api.Commit{a, next(0, 3, left), left}, []api.Commit{a, mergeOf(a, left), left}, []api.Commit{a, of(0, 2, 1), left})
	for _, l := range lists {
		disk := diskWith(l...)
		had, _ := Load(disk)
		n, size := 0, 0
		for cut := range len(disk) + 1 {
			if n < len(had) && cut == size+len(frameOf(bytesOf(had[n]))) {
				n, size = n+1, cut
			}
			got, used := Load(disk[:cut])
			if !same(got, had[:n]) || used != size || !dag.Closed(got) {
				t.Errorf("%d of %d bytes: %d commits, %d, want %d, %d", cut, len(disk), len(got), used, n, size)
			}
			// Nor is it seen what stood behind.
			if cut%7 == 0 || cut == size || cut == size+1 {
				isLoaded(t, slices.Clone(disk[:cut]), had[:n], size)
			}
		}
		if n != len(had) {
			t.Errorf("only %d of %d commits", n, len(had))
		}
	}
}

// P15.2: each byte of a disk is another one.
func TestSpoilt(t *testing.T) {
	a := of(0, 1, 1)
	left := next(0, 2, a)
	for _, l := range [][]api.Commit{{a}, {a, of(1, 1, 1), of(2, 1, 1)}, {a, left, next(1, 1, a), next(2, 7, left, next(1, 1, a))}, line(6, 2, 1)} {
		disk := diskWith(l...)
		at, end := -1, 0
		for i := range disk {
			if i == end {
				at++
				end += len(frameOf(bytesOf(l[at])))
			}
			size := end - len(frameOf(bytesOf(l[at])))
			for bits := 1; bits < 256; bits += 1 + len(disk)/40 {
				s := slices.Clone(disk)
				s[i] ^= byte(bits)
				isLoaded(t, s, l[:at], size)
			}
		}
	}
}

// P15.2: each byte of a record is another one, in a frame of which the sum is that of the record: what is loaded hangs on what it says then.
func TestSpoiltRecord(t *testing.T) {
	a, b := of(0, 1, 1), of(1, 1, 1)
	l := []api.Commit{a, b, next(0, 2, a, b), next(1, 2, next(0, 2, a, b))}
	count := make([]int, 5)
	for k := range l {
		for i := range bytesOf(l[k]) {
			for bits := 1; bits < 256; bits++ {
				if i > 8 && i < 60 && bits&(bits-1) > 0 {
					continue
				}
				x := bytesOf(l[k])
				x[i] ^= byte(bits)
				disk := slices.Concat(diskWith(l[:k]...), frameOf(x), diskWith(l[k+1:]...))
				want, used := wantLoad(disk)
				isLoaded(t, disk, want, used)
				count[len(want)]++
			}
		}
	}
	if slices.Min(count) < 10 {
		t.Errorf("of %v disks so many commits were loaded", count)
	}
}

// fine tells whether a disk is as it is opened.
func fine(disk []byte) bool { return bytes.Equal(Open(disk), disk) }

// P15.4: what is put behind a disk that is fine, where it may stand, is loaded; what may not stand there is not, nor anything behind it.
func TestPutLoad(t *testing.T) {
	for _, l := range closedLists() {
		var disk []byte
		for i, c := range l {
			more, no := Put(disk, most, c)
			if no != api.OK || !fine(disk) || !fine(more) {
				t.Fatalf("%v: %v", l, no)
			}
			disk = more
			isLoaded(t, disk, l[:i+1], len(disk))
		}
		for _, c := range append(candidates(), l...) {
			more, no := Put(disk, most, c)
			if no != api.OK {
				t.Errorf("Put of %v: %v", c, no)
			}
			if wantClosed(append(slices.Clip(l), c)) {
				isLoaded(t, more, append(slices.Clip(l), c), len(more))
				continue
			}
			isLoaded(t, more, l, len(disk))
			more, _ = Put(more, most, of(6, 66, 1))
			isLoaded(t, more, l, len(disk))
		}
		// Behind what is torn it is not, until that is opened.
		for _, torn := range noDisks() {
			c := with(of(7, most, 1), operations()[3])
			if len(l) > 0 {
				c = next(l[0].Ev.Node, most, l[0])
			}
			spoilt := append(slices.Clip(disk), torn...)
			more, _ := Put(spoilt, most, c)
			isLoaded(t, more, l, len(disk))
			more, no := Put(Open(spoilt), most, c)
			if no != api.OK {
				t.Errorf("Put of %v: %v", c, no)
			}
			isAsWanted(t, more)
		}
	}
}

// P15.4, P4: a node that puts its own commits and others', and crashes amid some of them: what was put whole is there, and no event is that of two.
func TestCrash(t *testing.T) {
	to := chance(23)
	for range 200 {
		var disk []byte
		var had []api.Commit
		for range 25 {
			node := to(2)
			c := with(next(node, Last(had, node)+1, last(had)...), some(to))
			more, no := Put(disk, most, c)
			if no != api.OK {
				t.Fatal(no)
			}
			if to(3) > 0 {
				disk, had = more, append(had, c)
			} else {
				// As much as that of the last record stays.
				disk = Open(more[:len(disk)+to(len(more)-len(disk))])
			}
			got, used := Load(disk)
			if !same(got, had) || used != len(disk) || Last(got, node) != Last(had, node) {
				t.Fatalf("%d commits are loaded, %d were put", len(got), len(had))
			}
		}
	}
}

// last is the last one of a row in which each one knows all the others.
func last(l []api.Commit) []api.Commit {
	if len(l) == 0 {
		return nil
	}
	return l[len(l)-1:]
}

// isLast asks for whose greatest Seq there is, in every order.
func isLast(t *testing.T, want, node int, l ...api.Commit) {
	t.Helper()
	for _, o := range orders(l) {
		if got := Last(o, node); got != want {
			t.Errorf("Last(%v, %d) = %d, want %d", o, node, got, want)
		}
	}
}

// P15.3: none, some and several of the node, whatever else they are.
func TestLast(t *testing.T) {
	for _, node := range []int{0, 1, 7, 8, 9, -1, -2, 1000, math.MaxInt, math.MinInt} {
		isLast(t, 0, node)
		isLast(t, 0, node, of(2, 7, 1))
		isLast(t, 0, node, of(2, 7, 1), of(3, most, 1), of(node+1, 5, 1), of(node-1, 5, 1), of(-node-20, 5, 1))
		isLast(t, 5, node, of(node, 5, 1))
		isLast(t, 1, node, of(node, 1, 1), of(2, 7, 1), of(node, 1, 9))
		isLast(t, 9, node, of(node, 5, 1), of(2, 77, 1), of(node, 9, 1), of(node, 8, 4))
		isLast(t, most, node, of(node, most, 1), of(node, most-1, 7), of(2, most+1, 1), of(node, 0, 1))
		// Seqs of which none is above 0, or some are none that may be.
		isLast(t, 0, node, of(node, 0, 1))
		isLast(t, 0, node, of(node, -1, 1), of(node, math.MinInt, 1), of(node, 0, 1), of(2, 3, 1))
		isLast(t, 2, node, of(node, -5, 1), of(node, 2, 1), of(node, 0, 0), of(node, -most, 1))
		isLast(t, math.MaxInt, node, of(node, most+1, 1), of(node, math.MaxInt, 1), of(node, -most, 1))
	}
	a, b := of(0, 1, 1), of(1, 1, 1)
	isLast(t, 0, -1, a, b, mergeOf(a, b))
	isLast(t, 1, 1, a, b, mergeOf(a, b))
	isLast(t, 0, 0, api.Commit{})
	isLast(t, 3, 0, api.Commit{}, api.Commit{Ev: api.Event{Seq: 3}}, api.Commit{Ev: api.Event{Node: 1, Seq: 4}})
	isLast(t, 0, 2, badCommits()...)
	for _, l := range closedLists() {
		for node := -1; node < 10; node++ {
			want := 0
			for _, c := range l {
				if c.Ev.Node == node && c.Ev.Seq > want {
					want = c.Ev.Seq
				}
			}
			isLast(t, want, node, l...)
		}
	}
}

// spoil changes all that bytes have room for, behind their end, too.
func spoil(b []byte) {
	b = b[:cap(b)]
	for i := range b {
		b[i] ^= 0x5a
	}
}

// spoilCommits does the same to commits and their parents.
func spoilCommits(l []api.Commit) {
	l = l[:cap(l)]
	for i := range l {
		p := l[i].Parents[:cap(l[i].Parents)]
		for j := range p {
			p[j][0] ^= 0x5a
		}
		l[i] = api.Commit{Gen: 77}
	}
}

// R3, R5: bytes that are answered are new, what is handed in stays, also behind its end, and the next answer is the same.
func TestOwn(t *testing.T) {
	a, b := of(0, 1, 1), of(1, 1, 1)
	calls := map[string]func(disk []byte, c api.Commit) []byte{
		"Open":     func(disk []byte, _ api.Commit) []byte { return Open(disk) },
		"Put":      func(disk []byte, c api.Commit) []byte { r, _ := Put(disk, math.MaxInt, c); return r },
		"Put full": func(disk []byte, c api.Commit) []byte { r, _ := Put(disk, len(disk), c); return r },
	}
	for name, f := range calls {
		for _, was := range disks() {
			for _, put := range []api.Commit{a, next(2, 1, a, b), mergeOf(a, b), {}, {Parents: idsOf(a)}} {
				// There is room behind all of them.
				disk := append(slices.Clone(was), make([]byte, 1000)...)
				parents := append(slices.Clone(put.Parents), api.ID{}, api.ID{1})
				keepDisk, keepParents := slices.Clone(disk), slices.Clone(parents)
				c := put
				c.Parents = parents[:len(put.Parents)]
				first := f(disk[:len(was)], c)
				want := slices.Clone(first)
				if !bytes.Equal(disk, keepDisk) || !slices.Equal(parents, keepParents) {
					t.Fatalf("%s changes what is handed in", name)
				}
				spoil(disk)
				clear(parents)
				if !bytes.Equal(first, want) {
					t.Fatalf("%s: the answer changes with what was handed in", name)
				}
				copy(disk, keepDisk)
				copy(parents, keepParents)
				second := f(disk[:len(was)], c)
				spoil(first)
				if !bytes.Equal(disk, keepDisk) || !slices.Equal(parents, keepParents) || !bytes.Equal(second, want) {
					t.Fatalf("%s: what was handed in, or another answer, changes with the answer", name)
				}
				if third := f(disk[:len(was)], c); !bytes.Equal(third, want) {
					t.Fatalf("%s: another answer the next time", name)
				}
			}
		}
	}
}

// R3, R5: the same of commits that are loaded, parents too.
func TestOwnLoad(t *testing.T) {
	for _, was := range disks() {
		disk := append(slices.Clone(was), make([]byte, 100)...)
		keep := slices.Clone(disk)
		first, used := Load(disk[:len(was)])
		want := clone(first)
		spoil(disk)
		if !same(first, want) {
			t.Fatalf("%v: the answer changes with what was handed in", short(was))
		}
		copy(disk, keep)
		second, size := Load(disk[:len(was)])
		if !same(second, want) || used != size {
			t.Fatalf("%v: another answer the next time", short(was))
		}
		for i := range first {
			spoilCommits(first[i : i+1 : i+1])
			if !same(first[i+1:], want[i+1:]) {
				t.Fatalf("%v: another commit changes with commit %d", short(was), i)
			}
		}
		spoilCommits(first)
		if !bytes.Equal(disk, keep) || !same(second, want) {
			t.Fatalf("%v: what was handed in, or another answer, changes with the answer", short(was))
		}
	}
}

// R3: Last leaves commits as they were.
func TestOwnLast(t *testing.T) {
	for _, l := range closedLists() {
		keep := clone(l)
		Last(l, 0)
		if !same(l, keep) {
			t.Errorf("%v: what was handed in is %v", keep, l)
		}
	}
}

// P1: disks as long as they may be, which are fine, or of which one commit is not, at their beginning, in the middle, or at their end.
func TestLong(t *testing.T) {
	var l []api.Commit
	var disk []byte
	var ends []int
	for {
		c := of(0, 1, 1)
		if len(l) > 0 {
			c = next(len(l)%8, len(l)+1, l[len(l)-1])
		}
		frame := frameOf(bytesOf(c))
		if len(disk)+len(frame) > most {
			isNot(t, disk, most, c, 4)
			break
		}
		l, disk = append(l, c), append(disk, frame...)
		ends = append(ends, len(disk))
	}
	loads := func(disk []byte, n int) {
		t.Helper()
		size := 0
		if n > 0 {
			size = ends[n-1]
		}
		if got, used := Load(disk); !same(got, l[:n]) || used != size {
			t.Errorf("of %d bytes %d commits are loaded, %d, want %d, %d", len(disk), len(got), used, n, size)
		}
	}
	loads(disk, len(l))
	for _, n := range []int{1, len(l) / 2, len(l) - 1} {
		// Of Seqs that come to be less, and of one event.
		for _, c := range []api.Commit{next(l[n-1].Ev.Node, l[n-1].Ev.Seq, l[n-1]), of(5, most, most, l[n-1])} {
			loads(slices.Concat(disk[:ends[n-1]], diskWith(c), disk[ends[n-1]:]), n)
		}
		loads(slices.Concat(disk[:ends[n-1]], disk[ends[n]-1:]), n)
	}
	if got := Last(l, 3); got < len(l)-8 || got > len(l) {
		t.Errorf("the last one of %d commits is %d", len(l), got)
	}
	for _, b := range [][]byte{make([]byte, 1<<22), bytes.Repeat([]byte{255}, 1<<22), bytes.Repeat(diskWith(l[0]), 50000)[13:], bytes.Repeat(frameOf(nil), 100000)} {
		if got, used := Load(b); len(got) > 1 || used > 13 || len(Open(b)) != used {
			t.Errorf("of %v %d commits are loaded, %d", short(b), len(got), used)
		}
	}
}

// P1, R1: no call panics, and each answers as the chapter says, whatever it is given.
func TestAny(t *testing.T) {
	to := chance(29)
	odd := []int{0, 1, -1, 2, 3, 7, 8, 9, most, most + 1, 1 << 32, math.MaxInt, math.MinInt}
	texts := []string{"", "a", "A", "abcdefgh", "abcdefghi", "\x00\xff"}
	number := func() int {
		if to(3) == 0 {
			return odd[to(len(odd))]
		}
		return to(4)
	}
	parts := noDisks()
	for range 5000 {
		var disk []byte
		l := mess(to(4), 1+to(3), to)
		for range to(6) {
			switch to(5) {
			case 0:
				disk = append(disk, short(parts[to(len(parts))])...)
			case 1:
				disk = append(disk, byte(to(256)))
			case 2:
				if len(disk) > 0 {
					disk[to(len(disk))] ^= byte(to(256))
				}
			default:
				if len(l) > 0 {
					disk, l = append(disk, diskWith(l[0])...), l[1:]
				}
			}
		}
		isAsWanted(t, disk)
		c := api.Commit{Ev: api.Event{Node: number(), Seq: number()}, Gen: number(), Op: api.Op{Kind: number(), Key: texts[to(6)], Elem: texts[to(6)], N: number()}}
		if to(2) == 0 {
			c = with(c, inc(1))
		}
		for range to(3) * to(6) {
			c.Parents = append(c.Parents, api.ID{0: byte(to(9)), 31: byte(to(9))})
		}
		slices.SortFunc(c.Parents, compare)
		room := number()
		switch enough := len(disk) + len(frameOf(bytesOf(c))); {
		case !commit.May(c):
			isNot(t, disk, room, c, 1)
		case room < enough:
			isNot(t, disk, room, c, 4)
		default:
			isPut(t, disk, room, c)
		}
		Last([]api.Commit{c, {}, c}, number())
	}
}
