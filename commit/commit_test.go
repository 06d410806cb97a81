package commit

import (
	"bytes"
	"crypto/sha256"
	"encoding/binary"
	"math"
	"regexp"
	"slices"
	"strings"
	"testing"

	"anabranch/api"
)

const most = 1048576

var one = regexp.MustCompile(`\A[a-z0-9]{1,8}\z`)

func ev(node, seq int) api.Event { return api.Event{Node: node, Seq: seq} }

// id is of two bytes alone, the first one and the last one.
func id(first, last byte) api.ID { return api.ID{0: first, 31: last} }

// rising are n ids that rise.
func rising(n int) []api.ID {
	var l []api.ID
	for i := range n {
		l = append(l, id(byte(i/3), byte(i%3)))
	}
	return l
}

// of is a commit that has an operation, or of n parents a merge.
func of(node, seq, gen int, o api.Op, parents ...api.ID) api.Commit {
	return api.Commit{Ev: ev(node, seq), Gen: gen, Parents: parents, Op: o}
}

func mergeOf(gen int, parents ...api.ID) api.Commit {
	return api.Commit{Ev: ev(-1, 0), Gen: gen, Parents: parents}
}

// inc, set, add and del are operations.
func inc(key string, n int) api.Op { return api.Op{Kind: 0, Key: key, N: n} }
func set(key, elem string) api.Op  { return api.Op{Kind: 1, Key: key, Elem: elem} }
func add(key, elem string) api.Op  { return api.Op{Kind: 2, Key: key, Elem: elem} }
func del(key, elem string) api.Op  { return api.Op{Kind: 3, Key: key, Elem: elem} }

// each are operations that may be, of each kind.
func each() []api.Op {
	return []api.Op{
		inc("a", 1), inc("a", -1), inc("b", 1), inc("abcdefgh", most), inc("0", -most), inc("z9", 64), inc("z9", -65),
		set("a", "x"), add("a", "x"), del("a", "x"), set("abcdefgh", "01234567"), add("k", "xyz"), del("0", "0"),
	}
}

// wrongOps are operations that may not be, each for one cause alone.
func wrongOps() []api.Op {
	l := []api.Op{{}, inc("a", 0), inc("a", most+1), inc("a", -most-1), inc("a", math.MinInt), inc("a", math.MaxInt), {Kind: 0, Key: "a", Elem: "x", N: 1}, {Kind: -1, Key: "a", N: 1}, {Kind: 4, Key: "a", N: 1}, {Kind: 4, Key: "a", Elem: "x"}, {Kind: -1, Key: "a", Elem: "x"}, {Kind: math.MinInt, Key: "a", N: 1}, {Kind: math.MaxInt, Key: "a", Elem: "x"}, {Kind: 1 << 32, Key: "a", N: 1}}
	for _, s := range wrong() {
		l = append(l, inc(s, 1), set(s, "x"), set("a", s), add(s, "x"), add("a", s), del(s, "x"), del("a", s))
	}
	for kind := 1; kind < 4; kind++ {
		l = append(l, api.Op{Kind: kind, Key: "a", Elem: "x", N: 1}, api.Op{Kind: kind, Key: "a", Elem: "x", N: -1}, api.Op{Kind: kind, Key: "a", N: 1})
	}
	return l
}

// wrong are texts that may be neither keys nor elements.
func wrong() []string {
	return []string{"", "A", "abcdefghi", "`", "{", "/", ":", " ", "a\x00", "\x80", "é"}
}

// numbers are those at the edges, and at the ends.
func numbers() []int {
	return []int{0, 1, -1, 2, -2, 3, 6, 7, 8, 9, -7, -8, -9, 63, 64, 127, 128, 255, 256, most - 1, most, most + 1, -most, 1 << 31, 1 << 32, 1<<32 + 1, 1<<32 - 1, -1 << 32, 1 << 62, math.MaxInt, math.MaxInt - 1, math.MinInt, math.MinInt + 1}
}

// chance answers numbers that seem random, the same ones each time.
func chance(seed uint32) func(int) int {
	return func(n int) int {
		seed = seed*1664525 + 1013904223
		return int(seed>>8) % n
	}
}

// good are commits that may be, and no two of which are the same.
func good() []api.Commit {
	a, b := id(1, 0), id(2, 0)
	var l []api.Commit
	for _, o := range each() {
		l = append(l, of(0, 1, 1, o), of(0, 1, 2, o, a), of(7, most, most, o, rising(8)...))
	}
	o := inc("a", 1)
	for _, node := range []int{1, 6, 7} {
		l = append(l, of(node, 1, 1, o), of(node, 2, 2, o, a))
	}
	for _, n := range []int{2, 3, 127, 128, 16383, 16384, most - 1, most} {
		l = append(l, of(0, n, 1, o), of(0, n, 2, o, a), mergeOf(n, a, b))
		if n > 2 {
			l = append(l, of(0, 1, n, o, a))
		}
	}
	for n := 2; n <= 8; n++ {
		l = append(l, of(1, 1, 2, o, rising(n)...), mergeOf(2, rising(n)...), mergeOf(9, rising(n)...))
	}
	return append(l, of(0, 1, 2, o, b), of(0, 1, 2, o, api.ID{}), of(0, 1, 2, o, id(0, 255)), of(0, 1, 2, o, a, b), of(0, 1, 2, o, id(1, 0), id(1, 1)), mergeOf(2, id(1, 0), id(1, 1)), mergeOf(2, id(0, 0), id(255, 255)))
}

// badPlaces are commits with and without an operation that may not be for their generation's, or their parents' sake.
func badPlaces() []api.Commit {
	a, b, o := id(1, 0), id(2, 0), set("a", "x")
	var l []api.Commit
	for _, n := range numbers() {
		if n < 1 || n > most {
			l = append(l, of(0, 1, n, o), of(0, 1, n, o, a), of(0, 1, n, o, a, b), mergeOf(n, a, b))
		}
		if n != 1 {
			l = append(l, of(0, 1, n, o), mergeOf(n))
		}
	}
	l = append(l, of(0, 1, 1, o, a), of(0, 1, 1, o, a, b), of(0, 1, 1, o, rising(8)...), mergeOf(1, a, b), mergeOf(1, rising(8)...), mergeOf(1), mergeOf(2, a), mergeOf(1, a))
	for _, p := range [][]api.ID{{a, a}, {b, a}, {id(1, 1), id(1, 0)}, {a, a, b}, {a, b, b}, {a, b, a}, {b, id(3, 0), a}, {{}, {}}, append(rising(7), id(0, 0)), append(rising(7), rising(7)[6]), rising(9), rising(10), append(rising(8), id(0, 0)), rising(40)} {
		l = append(l, of(0, 1, 2, o, p...), mergeOf(2, p...))
	}
	return l
}

// bad are commits that may not be, each for one cause.
func bad() []api.Commit {
	a, b, o := id(1, 0), id(2, 0), inc("a", 1)
	l := append(badPlaces(), api.Commit{}, of(0, 1, 2, o), of(-1, 0, 1, o), of(-1, 1, 1, o), of(-1, 0, 2, o, a), of(-1, 0, 2, o, a, b), of(-1, 1, 2, o, a, b))
	for _, n := range numbers() {
		if n < 0 || n > 7 {
			l = append(l, of(n, 1, 1, o), of(n, 1, 2, o, a), of(n, 1, 2, o, a, b))
		}
		if n != -1 {
			// A merge but for its Node.
			l = append(l, of(n, 0, 2, api.Op{}, a, b))
		}
		if n < 1 || n > most {
			l = append(l, of(0, n, 1, o), of(7, n, 2, o, a), of(0, n, 2, o, a, b))
		}
		if n != 0 {
			// A merge but for its Seq, or its operation.
			l = append(l, of(-1, n, 2, api.Op{}, a, b), of(-1, 0, 2, api.Op{N: n}, a, b), of(-1, 0, 2, api.Op{Kind: n}, a, b))
		}
	}
	for _, wrongOp := range wrongOps() {
		l = append(l, of(0, 1, 1, wrongOp), of(0, 1, 2, wrongOp, a), of(0, 1, 2, wrongOp, a, b))
	}
	for _, p := range append(each(), wrongOps()...) {
		if p != (api.Op{}) {
			l = append(l, of(-1, 0, 2, p, a, b))
		}
	}
	return append(l, of(-1, 0, 2, api.Op{Key: "a"}, a, b), of(-1, 0, 2, api.Op{Elem: "x"}, a, b), of(-1, 0, 2, api.Op{Key: "A"}, a, b))
}

func all() []api.Commit { return append(good(), bad()...) }

// wantEvent, wantOp, wantMerge and wantMay ask each part, as chapters 5, 9 and 10 do.
func wantEvent(e api.Event) bool {
	return e.Node >= 0 && e.Node <= 7 && e.Seq >= 1 && e.Seq <= 1048576
}

func wantOp(o api.Op) bool {
	if !one.MatchString(o.Key) {
		return false
	}
	if o.Kind == 0 {
		return o.N != 0 && o.N >= -1048576 && o.N <= 1048576 && o.Elem == ""
	}
	return o.Kind >= 1 && o.Kind <= 3 && o.N == 0 && one.MatchString(o.Elem)
}

func wantPlace(c api.Commit) bool {
	for i := range c.Parents {
		for _, p := range c.Parents[:i] {
			if bytes.Compare(p[:], c.Parents[i][:]) >= 0 {
				return false
			}
		}
	}
	if c.Gen == 1 && len(c.Parents) > 0 || c.Gen != 1 && len(c.Parents) == 0 {
		return false
	}
	return c.Gen >= 1 && c.Gen <= 1048576 && len(c.Parents) <= 8
}

func wantMerge(c api.Commit) bool {
	return wantPlace(c) && c.Ev.Node == -1 && c.Ev.Seq == 0 && c.Op.Kind == 0 && c.Op.Key == "" && c.Op.Elem == "" && c.Op.N == 0 && len(c.Parents) >= 2
}

func wantMay(c api.Commit) bool {
	return wantMerge(c) || wantPlace(c) && wantEvent(c.Ev) && wantOp(c.Op)
}

// wantPut is of any commit, whether or not it may be; the library's varints are numbers as enc puts them, folded ones if they have a sign.
func wantPut(c api.Commit) []byte {
	b := binary.AppendVarint(nil, int64(c.Ev.Node))
	b = binary.AppendUvarint(b, uint64(c.Ev.Seq))
	b = binary.AppendUvarint(b, uint64(c.Gen))
	b = binary.AppendUvarint(b, uint64(len(c.Parents)))
	for _, p := range c.Parents {
		b = append(b, p[:]...)
	}
	if c.Ev.Node == -1 && c.Op == (api.Op{}) {
		return b
	}
	b = binary.AppendUvarint(b, uint64(c.Op.Kind))
	b = binary.AppendUvarint(b, uint64(len(c.Op.Key)))
	b = append(b, c.Op.Key...)
	if c.Op.Kind == 0 {
		return binary.AppendVarint(b, int64(c.Op.N))
	}
	b = binary.AppendUvarint(b, uint64(len(c.Op.Elem)))
	return append(b, c.Op.Elem...)
}

// lax reads numbers, texts and ids, however they are put; it goes on where there is nothing.
type lax struct{ b []byte }

func (r *lax) num() uint64 {
	n, size := binary.Uvarint(r.b)
	r.b = r.b[max(size, 0):]
	return n
}

func (r *lax) fold() int {
	n, size := binary.Varint(r.b)
	r.b = r.b[max(size, 0):]
	return int(n)
}

func (r *lax) some(n uint64) []byte {
	n = min(n, uint64(len(r.b)))
	s := r.b[:n]
	r.b = r.b[n:]
	return s
}

// wantGet reads what may be a commit, and then asks whether it may be, and whether the bytes begin with its own.
func wantGet(b []byte) (api.Commit, []byte, bool) {
	r := &lax{b}
	c := api.Commit{Ev: ev(r.fold(), int(r.num())), Gen: int(r.num())}
	for range min(r.num(), 9) {
		var a api.ID
		copy(a[:], r.some(32))
		c.Parents = append(c.Parents, a)
	}
	if c.Ev.Node != -1 {
		c.Op = api.Op{Kind: int(r.num()), Key: string(r.some(r.num()))}
		if c.Op.Kind == 0 {
			c.Op.N = r.fold()
		} else {
			c.Op.Elem = string(r.some(r.num()))
		}
	}
	if !wantMay(c) {
		return api.Commit{}, nil, false
	}
	behind, is := bytes.CutPrefix(b, wantPut(c))
	return c, behind, is
}

// equal tells whether commits are the same, without Same.
func equal(a, b api.Commit) bool {
	return a.Ev == b.Ev && a.Gen == b.Gen && slices.Equal(a.Parents, b.Parents) && a.Op == b.Op
}

func empty(c api.Commit) bool { return equal(c, api.Commit{}) }

func clone(c api.Commit) api.Commit {
	c.Parents = slices.Clone(c.Parents)
	return c
}

func checkMay(t *testing.T, c api.Commit) {
	t.Helper()
	if got, want := May(c), wantMay(c); got != want {
		t.Errorf("May(%v) = %v, want %v", c, got, want)
	}
	if got, want := Merge(c), wantMerge(c); got != want {
		t.Errorf("Merge(%v) = %v, want %v", c, got, want)
	}
}

func checkPut(t *testing.T, c api.Commit) {
	t.Helper()
	var want []byte
	wantNo := api.Errno(1)
	if wantMay(c) {
		want, wantNo = wantPut(c), 0
	}
	if got, no := Put(c); !bytes.Equal(got, want) || no != wantNo {
		t.Errorf("Put(%v) = %v, %d, want %v, %d", c, got, no, want, wantNo)
	}
	var wantID api.ID
	if wantNo == 0 {
		wantID = sha256.Sum256(want)
	}
	if got, no := Hash(c); got != wantID || no != wantNo {
		t.Errorf("Hash(%v) = %x, %d, want %x, %d", c, got, no, wantID, wantNo)
	}
}

// checkGet asks that bytes are got as the chapter says.
func checkGet(t *testing.T, b []byte) {
	t.Helper()
	want, wantBehind, is := wantGet(b)
	c, behind, no := Get(b)
	if is && (!equal(c, want) || !bytes.Equal(behind, wantBehind) || no != 0) {
		t.Errorf("Get(%q) = %v, %q, %d, want %v, %q, OK", b, c, behind, no, want, wantBehind)
	}
	if !is && (!empty(c) || len(behind) != 0 || no != 2) {
		t.Errorf("Get(%q) = %v, %q, %d, want noughts, nothing, ErrForm", b, c, behind, no)
	}
}

// none asks that bytes begin with no commit.
func none(t *testing.T, b []byte) {
	t.Helper()
	if c, behind, no := Get(b); !empty(c) || len(behind) != 0 || no != api.ErrForm {
		t.Errorf("Get(%q) = %v, %q, %d, want noughts, nothing, ErrForm", b, c, behind, no)
	}
}

// isGot asks that bytes begin with a commit, and what stands behind.
func isGot(t *testing.T, b []byte, want api.Commit, wantBehind string) {
	t.Helper()
	if c, behind, no := Get(b); !equal(c, want) || string(behind) != wantBehind || no != api.OK {
		t.Errorf("Get(%q) = %v, %q, %d, want %v, %q, OK", b, c, behind, no, want, wantBehind)
	}
}

// P10.1: what may be may, and what may not for any cause may not.
func TestMay(t *testing.T) {
	for _, c := range good() {
		if !May(c) || !wantMay(c) {
			t.Errorf("%v may not be", c)
		}
		checkMay(t, c)
	}
	for _, c := range bad() {
		if May(c) || wantMay(c) || Merge(c) {
			t.Errorf("%v may be", c)
		}
	}
}

// P10.1: generations and parents by name.
func TestMayPlaces(t *testing.T) {
	a, b, c, o := id(1, 0), id(2, 0), id(2, 1), inc("a", 1)
	for _, x := range []struct {
		c    api.Commit
		want bool
	}{
		{of(0, 1, 0, o), false}, {of(0, 1, 1, o), true}, {of(0, 1, 2, o), false}, {of(0, 1, most, o), false}, {of(0, 1, most+1, o), false}, {of(0, 1, math.MinInt, o), false}, {of(0, 1, math.MaxInt, o), false}, {of(0, 1, -1, o), false},
		{of(0, 1, 0, o, a), false}, {of(0, 1, 1, o, a), false}, {of(0, 1, 2, o, a), true}, {of(0, 1, most, o, a), true}, {of(0, 1, most+1, o, a), false}, {of(0, 1, math.MinInt, o, a), false}, {of(0, 1, math.MaxInt, o, a), false}, {of(0, 1, -1, o, a), false},
		{mergeOf(0, a, b), false}, {mergeOf(1, a, b), false}, {mergeOf(2, a, b), true}, {mergeOf(most, a, b), true}, {mergeOf(most+1, a, b), false}, {mergeOf(math.MinInt, a, b), false}, {mergeOf(math.MaxInt, a, b), false},
		{of(0, 1, 2, o, rising(1)...), true}, {of(0, 1, 2, o, rising(2)...), true}, {of(0, 1, 2, o, rising(8)...), true}, {of(0, 1, 2, o, rising(9)...), false}, {of(0, 1, 1, o, rising(8)...), false}, {of(0, 1, 2, o, rising(1000)...), false},
		{mergeOf(1), false}, {mergeOf(2), false}, {mergeOf(1, a), false}, {mergeOf(2, a), false}, {mergeOf(2, rising(2)...), true}, {mergeOf(2, rising(8)...), true}, {mergeOf(2, rising(9)...), false},
		{of(0, 1, 2, o, a, b, c), true}, {of(0, 1, 2, o, a, a), false}, {of(0, 1, 2, o, b, a), false}, {of(0, 1, 2, o, a, c, b), false}, {of(0, 1, 2, o, a, b, b), false}, {of(0, 1, 2, o, c, a), false},
		{mergeOf(2, a, b, c), true}, {mergeOf(2, a, a), false}, {mergeOf(2, b, a), false}, {mergeOf(2, a, c, b), false}, {mergeOf(2, a, b, b), false},
		// Parents whose ids are noughts, or as great as can be, are parents like others.
		{of(0, 1, 2, o, api.ID{}), true}, {of(0, 1, 1, o, api.ID{}), false}, {mergeOf(2, api.ID{}, id(255, 255)), true}, {mergeOf(2, api.ID{}, api.ID{}), false},
		{api.Commit{Ev: ev(0, 1), Gen: 1, Parents: []api.ID{}, Op: o}, true}, {api.Commit{Ev: ev(0, 1), Gen: 2, Parents: []api.ID{}, Op: o}, false},
	} {
		if got := May(x.c); got != x.want {
			t.Errorf("May(%v) = %v, want %v", x.c, got, x.want)
		}
		if got, want := Merge(x.c), x.want && x.c.Ev.Node == -1; got != want {
			t.Errorf("Merge(%v) = %v, want %v", x.c, got, want)
		}
	}
}

// P10.1: events by name, without and with parents.
func TestMayEvents(t *testing.T) {
	for _, x := range []struct {
		ev   api.Event
		want bool
	}{
		{ev(-2, 1), false}, {ev(-1, 1), false}, {ev(-1, 0), false}, {ev(0, 1), true}, {ev(7, 1), true}, {ev(8, 1), false}, {ev(math.MinInt, 1), false}, {ev(math.MaxInt, 1), false}, {ev(1<<32, 1), false},
		{ev(0, 0), false}, {ev(0, -1), false}, {ev(0, most), true}, {ev(0, most+1), false}, {ev(7, most), true}, {ev(8, most+1), false}, {ev(0, math.MinInt), false}, {ev(0, math.MaxInt), false}, {ev(0, 1<<32+1), false},
	} {
		for _, o := range each() {
			for n := range 9 {
				c := of(x.ev.Node, x.ev.Seq, min(n, 1)+1, o, rising(n)...)
				if May(c) != x.want || Merge(c) {
					t.Errorf("%v: May %v, Merge %v, want %v and no merge", c, May(c), Merge(c), x.want)
				}
			}
		}
	}
}

// P10.1: operations by name, without and with parents.
func TestMayOps(t *testing.T) {
	for n := range 9 {
		c := of(3, 4, min(n, 1)+1, api.Op{}, rising(n)...)
		for _, o := range each() {
			if c.Op = o; !May(c) || Merge(c) {
				t.Errorf("%v: May %v, Merge %v", c, May(c), Merge(c))
			}
		}
		for _, o := range wrongOps() {
			if c.Op = o; May(c) || Merge(c) {
				t.Errorf("%v: May %v, Merge %v", c, May(c), Merge(c))
			}
		}
	}
}

// P10.1: merges by name: how many parents, and what they may have in no field.
func TestMerge(t *testing.T) {
	for n := range 12 {
		for _, gen := range []int{1, 2, most} {
			want := n >= 2 && n <= 8 && gen > 1
			if c := mergeOf(gen, rising(n)...); Merge(c) != want || May(c) != want {
				t.Errorf("%v: Merge %v, May %v, want %v", c, Merge(c), May(c), want)
			}
		}
		for _, change := range []func(c *api.Commit){
			func(c *api.Commit) { c.Ev.Node = -2 },
			func(c *api.Commit) { c.Ev.Node = 0 },
			func(c *api.Commit) { c.Ev = ev(0, 1) },
			func(c *api.Commit) { c.Ev.Seq = 1 },
			func(c *api.Commit) { c.Ev.Seq = -1 },
			func(c *api.Commit) { c.Op.Kind = 1 },
			func(c *api.Commit) { c.Op.Kind = -1 },
			func(c *api.Commit) { c.Op.Key = "a" },
			func(c *api.Commit) { c.Op.Elem = "x" },
			func(c *api.Commit) { c.Op.N = 1 },
			func(c *api.Commit) { c.Op.N = -1 },
			func(c *api.Commit) { c.Op = inc("a", 1) },
			func(c *api.Commit) { c.Op = set("a", "x") },
			func(c *api.Commit) { c.Ev.Seq, c.Op = 1, add("a", "x") },
			func(c *api.Commit) { c.Parents[1] = c.Parents[0] },
			func(c *api.Commit) { slices.Reverse(c.Parents) },
			func(c *api.Commit) { c.Gen = 0 },
			func(c *api.Commit) { c.Gen = most + 1 },
		} {
			if n < 2 {
				continue
			}
			c := mergeOf(2, rising(n)...)
			if change(&c); Merge(c) || May(c) {
				t.Errorf("%v: Merge %v, May %v", c, Merge(c), May(c))
			}
		}
	}
	for _, c := range all() {
		checkMay(t, c)
	}
}

// The chapter's example.
func TestExample(t *testing.T) {
	c := of(0, 1, 1, inc("a", 1))
	want := []byte{0, 1, 1, 0, 0, 1, 97, 2}
	if b, no := Put(c); !bytes.Equal(b, want) || no != api.OK {
		t.Error(b, no)
	}
	isGot(t, want, c, "")
	if a, no := Hash(c); a != sha256.Sum256(want) || no != api.OK {
		t.Error(a, no)
	}
}

// P10.2: byte by byte.
func TestPutBytes(t *testing.T) {
	noughts := strings.Repeat("\x00", 30)
	first, second := "\x01"+noughts+"\x02", "\x03"+noughts+"\x04"
	a, b := id(1, 2), id(3, 4)
	for _, x := range []struct {
		c api.Commit
		b string
	}{
		{of(0, 1, 1, inc("a", -1)), "\x00\x01\x01\x00\x00\x01a\x01"},
		{of(1, 2, 1, set("ab", "xyz")), "\x02\x02\x01\x00\x01\x02ab\x03xyz"},
		{of(7, 127, 1, add("a", "x")), "\x0e\x7f\x01\x00\x02\x01a\x01x"},
		{of(7, 128, 1, del("abcdefgh", "01234567")), "\x0e\x80\x01\x01\x00\x03\x08abcdefgh\x0801234567"},
		{of(3, most, 1, inc("a", most)), "\x06\x80\x80\x40\x01\x00\x00\x01a\x80\x80\x80\x01"},
		{of(0, 1, 2, inc("a", 1), a), "\x00\x01\x02\x01" + first + "\x00\x01a\x02"},
		{of(0, 5, most, set("a", "x"), a, b), "\x00\x05\x80\x80\x40\x02" + first + second + "\x01\x01a\x01x"},
		{of(0, 1, 300, set("a", "x"), b), "\x00\x01\xac\x02\x01" + second + "\x01\x01a\x01x"},
		{mergeOf(2, a, b), "\x01\x00\x02\x02" + first + second},
		{mergeOf(200, api.ID{}, a, b), "\x01\x00\xc8\x01\x03" + noughts + "\x00\x00" + first + second},
	} {
		if b, no := Put(x.c); string(b) != x.b || no != api.OK {
			t.Errorf("Put(%v) = %q, %d, want %q", x.c, b, no, x.b)
		}
		isGot(t, []byte(x.b), x.c, "")
	}
}

// P10.2: of what may be the bytes, and their sum as SHA-256 is known; of all else ErrArg, and nothing.
func TestPutAndHash(t *testing.T) {
	for _, c := range all() {
		checkPut(t, c)
	}
	for _, c := range bad() {
		if b, no := Put(c); len(b) != 0 || no != api.ErrArg {
			t.Errorf("Put(%v) = %v, %d", c, b, no)
		}
		if a, no := Hash(c); a != (api.ID{}) || no != api.ErrArg {
			t.Errorf("Hash(%v) = %x, %d", c, a, no)
		}
	}
}

// P10.2, P10.3: what is put is got, whatever stands behind; a mere beginning of it is not.
func TestGet(t *testing.T) {
	behinds := []string{"", "\x00", "\x01", "a", "\x80", "\xff\xff\xff", "\x00\x01\x01\x00\x00\x01a\x02", "\x00\x01a\x02", strings.Repeat("z", 300)}
	for _, c := range good() {
		b, _ := Put(c)
		for _, s := range append(behinds, string(b)) {
			isGot(t, append(slices.Clone(b), s...), c, s)
		}
		for n := range b {
			none(t, b[:n])
		}
	}
}

// P10.3: commits put one behind the other are got one behind the other.
func TestRow(t *testing.T) {
	l := good()
	var b []byte
	for _, c := range l {
		x, _ := Put(c)
		b = append(b, x...)
	}
	for i, want := range l {
		c, behind, no := Get(b)
		if !equal(c, want) || no != api.OK || len(behind) >= len(b) {
			t.Fatalf("%d: %v, %d, want %v", i, c, no, want)
		}
		b = behind
	}
	if len(b) != 0 {
		t.Errorf("%d bytes are left", len(b))
	}
}

// P10.2: a merge has no operation: one that stands behind it stands behind it.
func TestMergeBehind(t *testing.T) {
	for n := 2; n <= 8; n++ {
		c := mergeOf(2, rising(n)...)
		b := wantPut(c)
		for _, s := range []string{"\x00\x01a\x02", "\x01\x01a\x01x", "\x00", "\x04\x01a\x01x", "\x00\x01a\x00"} {
			isGot(t, append(slices.Clone(b), s...), c, s)
		}
	}
	// But of one or no parent there is no merge, whatever stands behind.
	for n := range 2 {
		for _, s := range []string{"", "\x00\x01a\x02", "\x01\x01a\x01x"} {
			none(t, append(wantPut(mergeOf(n+1, rising(n)...)), s...))
		}
	}
}

// P10.2: bytes that no commit's Put begins, by name.
func TestGetNone(t *testing.T) {
	a := strings.Repeat("\x01", 32)
	b := strings.Repeat("\x02", 32)
	huge := "\xff\xff\xff\xff\xff\xff\xff\xff\xff\x01"
	for _, s := range []string{
		"", "\x00", "\x00\x01", "\x00\x01\x01", "\x00\x01\x01\x00", "\x00\x01\x01\x00\x00", "\x00\x01\x01\x00\x00\x01a", "\x80", "\x00\x80", "\x00\x01\x80", "\x00\x01\x01\x80", "\xff\xff\xff",
		// Numbers that end by a byte 0, or have no end.
		"\x80\x00\x01\x01\x00\x00\x01a\x02", "\x00\x81\x00\x01\x00\x00\x01a\x02", "\x00\x01\x81\x00\x00\x00\x01a\x02", "\x00\x01\x01\x80\x00\x00\x01a\x02", "\x00\x01\x01\x00\x80\x00\x01a\x02", "\x00\x01\x01\x00\x00\x81\x00a\x02", "\x00\x01\x01\x00\x00\x01a\x82\x00", "\x81\x00\x00\x02\x02" + a + b, "\x01\x80\x00\x02\x02" + a + b,
		strings.Repeat("\x80", 20), strings.Repeat("\xff", 20), "\x00\x01" + strings.Repeat("\x80", 20),
		// Nodes: -2, -8, 8, 9, and beyond; one that would be -1, or 0, if it were cut off.
		"\x03\x01\x01\x00\x00\x01a\x02", "\x0f\x01\x01\x00\x00\x01a\x02", "\x10\x01\x01\x00\x00\x01a\x02", "\x12\x01\x01\x00\x00\x01a\x02", "\x7f\x01\x01\x00\x00\x01a\x02", "\x80\x80\x80\x80\x20\x01\x01\x00\x00\x01a\x02", "\x81\x80\x80\x80\x20\x00\x02\x02" + a + b, huge + "\x01\x01\x00\x00\x01a\x02", "\x80\x80\x80\x80\x80\x80\x80\x80\x80\x02\x01\x01\x00\x00\x01a\x02", "\xff\xff\xff\xff\xff\xff\xff\xff\xff\x03\x01\x01\x00\x00\x01a\x02",
		"\x03\x00\x02\x02" + a + b, "\x00\x00\x02\x02" + a + b, huge + "\x00\x02\x02" + a + b,
		// Of the Node -1 with an operation, with a Seq, with none of these two.
		"\x01\x01\x01\x00\x00\x01a\x02", "\x01\x00\x01\x00\x00\x01a\x02", "\x01\x00\x01\x00", "\x01\x01\x02\x02" + a + b, "\x01\x01\x02\x02" + a + b + "\x00\x01a\x02",
		// Seqs of 0, 2^20 + 1, and beyond what an int holds.
		"\x00\x00\x01\x00\x00\x01a\x02", "\x00\x81\x80\x40\x01\x00\x00\x01a\x02", "\x00\x81\x80\x80\x80\x10\x01\x00\x00\x01a\x02", "\x00\x81\x80\x80\x80\x80\x80\x80\x80\x80\x01\x01\x00\x00\x01a\x02", "\x00" + huge + "\x01\x00\x00\x01a\x02", "\x01" + huge + "\x02\x02" + a + b, "\x01\x80\x80\x80\x80\x10\x02\x02" + a + b,
		// Generations likewise, and such as do not fit with how many parents there are.
		"\x00\x01\x00\x00\x00\x01a\x02", "\x00\x01\x02\x00\x00\x01a\x02", "\x00\x01\x01\x01" + a + "\x00\x01a\x02", "\x00\x01\x00\x01" + a + "\x00\x01a\x02", "\x00\x01\x81\x80\x40\x01" + a + "\x00\x01a\x02", "\x00\x01\x82\x80\x80\x80\x10\x01" + a + "\x00\x01a\x02", "\x00\x01\x81\x80\x80\x80\x80\x80\x80\x80\x80\x01\x00\x00\x01a\x02", "\x00\x01" + huge + "\x01" + a + "\x00\x01a\x02", "\x01\x00\x01\x02" + a + b, "\x01\x00\x00\x02" + a + b, "\x01\x00\x81\x80\x40\x02" + a + b,
		// How many parents there are beyond the bytes that are left, beyond 8, and far beyond both.
		"\x00\x01\x02\x01", "\x00\x01\x02\x01" + a[:31], "\x00\x01\x02\x02" + a + b[:31], "\x00\x01\x02\x08" + a + b, "\x00\x01\x02\x09" + a + b, "\x00\x01\x02\x7f" + a, "\x00\x01\x02" + huge + a, "\x00\x01\x02\x80\x80\x80\x80\x80\x80\x80\x80\x80\x01" + a, "\x00\x01\x02\xff\xff\xff\xff\x0f" + a, "\x00\x01\x02\x81\x80\x80\x80\x10" + a + "\x00\x01a\x02", "\x01\x00\x02" + huge + a + b, "\x01\x00\x02\x82\x80\x80\x80\x10" + a + b, "\x01\x00\x02\xff\xff\xff\xff\xff\xff\xff\xff\x7f" + a + b,
		// Parents that do not rise.
		"\x00\x01\x02\x02" + b + a + "\x00\x01a\x02", "\x00\x01\x02\x02" + a + a + "\x00\x01a\x02", "\x01\x00\x02\x02" + b + a, "\x01\x00\x02\x02" + a + a, "\x01\x00\x02\x03" + a + b + b, "\x01\x00\x02\x03" + a + b + a,
		// Operations that may not be.
		"\x00\x01\x01\x00\x00\x01a\x00", "\x00\x01\x01\x00\x04\x01a\x02", "\x00\x01\x01\x00\x04\x01a\x01x", "\x00\x01\x01\x00\x00\x00\x02", "\x00\x01\x01\x00\x00\x01A\x02", "\x00\x01\x01\x00\x00\x09abcdefghi\x02", "\x00\x01\x01\x00\x00\x01a\x82\x80\x80\x01", "\x00\x01\x01\x00\x01\x01a\x00", "\x00\x01\x01\x00\x02\x01a\x01X", "\x00\x01\x01\x00\x03\x01a\x09abcdefghi", "\x00\x01\x01\x00" + huge + "\x01a\x02", "\x00\x01\x01\x00\x00" + huge + "a\x02", "\x00\x01\x02\x01" + a + "\x00\x01a\x00",
	} {
		none(t, []byte(s))
		checkGet(t, []byte(s))
	}
	none(t, wantPut(of(0, 1, 2, inc("a", 1), rising(9)...)))
	none(t, wantPut(mergeOf(2, rising(9)...)))
	// As far as one that may not be would be put, it is not got.
	for _, c := range bad() {
		checkGet(t, wantPut(c))
	}
}

// P10.2: short bytes of all kinds, and each byte of a commit's bytes as each other one, doubled, or left out.
func TestGetBytes(t *testing.T) {
	few := []byte{0, 1, 2, 3, 8, 14, 16, 'a', 128, 255}
	var rest func(b []byte, more int)
	rest = func(b []byte, more int) {
		checkGet(t, b)
		if more > 0 {
			for _, x := range few {
				rest(append(b[:len(b):len(b)], x), more-1)
			}
		}
	}
	rest(nil, 5)
	rest([]byte{0, 1, 1, 0}, 4)
	a := id(1, 2)
	for _, c := range []api.Commit{of(0, 1, 1, inc("a", 1)), of(7, 300, 1, set("ab", "xy")), of(0, 1, 2, add("a", "x"), a), of(1, 2, 300, del("a", "x"), a, id(2, 1)), mergeOf(2, a, id(1, 3)), mergeOf(300, id(0, 0), a, id(3, 0))} {
		b := wantPut(c)
		for i := range b {
			for x := range 256 {
				other := slices.Clone(b)
				other[i] = byte(x)
				checkGet(t, other)
				checkGet(t, append(other, 'a', 'b', 2))
			}
			checkGet(t, slices.Delete(slices.Clone(b), i, i+1))
			checkGet(t, slices.Insert(slices.Clone(b), i, b[i]))
		}
	}
}

// P10.3: what is got may be, and is put as the same bytes, so that no two bytes are one commit's.
func TestAgain(t *testing.T) {
	next := chance(3)
	n, l := 0, good()
	for range 60000 {
		b := wantPut(l[next(len(l))])
		if next(3) == 0 {
			b = append(b, wantPut(l[next(len(l))])...)
		}
		for range next(3) {
			i := next(min(len(b), []int{4, 8, 999}[next(3)]))
			b[i] = []byte{0, 1, 2, b[i] + 1, b[i] ^ 128, byte(next(256))}[next(6)]
		}
		checkGet(t, b)
		c, behind, no := Get(b)
		if no != api.OK {
			continue
		}
		n++
		again, no := Put(c)
		if !May(c) || no != api.OK || !bytes.Equal(append(again, behind...), b) {
			t.Errorf("%q is got as %v and %q, which is put as %q, %d", b, c, behind, again, no)
		}
	}
	if n < 1000 {
		t.Errorf("only %d are commits", n)
	}
}

// P10.2: the same just if Ev, Gen, Parents and Op are, also of what may not be.
func TestSame(t *testing.T) {
	l := all()
	for _, a := range l {
		for _, b := range l {
			if got, want := Same(a, clone(b)), equal(a, b); got != want {
				t.Fatalf("Same(%v, %v) = %v, want %v", a, b, got, want)
			}
		}
	}
}

// P10.2: each field alone makes another one.
func TestSameFields(t *testing.T) {
	changes := []func(c *api.Commit){
		func(c *api.Commit) { c.Ev.Node++ },
		func(c *api.Commit) { c.Ev.Seq++ },
		func(c *api.Commit) { c.Ev.Seq = math.MinInt },
		func(c *api.Commit) { c.Gen++ },
		func(c *api.Commit) { c.Gen = -c.Gen - 1 },
		func(c *api.Commit) { c.Op.Kind++ },
		func(c *api.Commit) { c.Op.Key += "a" },
		func(c *api.Commit) { c.Op.Elem += "\x00" },
		func(c *api.Commit) { c.Op.N++ },
		func(c *api.Commit) { c.Parents = append(c.Parents, id(200, 0)) },
		func(c *api.Commit) { c.Parents = append([]api.ID{{}}, c.Parents...) },
		func(c *api.Commit) { c.Parents[0][31]++ },
		func(c *api.Commit) { c.Parents[len(c.Parents)-1][0]++ },
		func(c *api.Commit) { c.Parents = c.Parents[1:] },
		func(c *api.Commit) { c.Parents = c.Parents[:len(c.Parents)-1] },
		func(c *api.Commit) { slices.Reverse(c.Parents) },
	}
	for _, c := range []api.Commit{of(1, 2, 3, set("a", "x"), rising(2)...), mergeOf(2, rising(3)...), of(-5, -6, -7, api.Op{Kind: 9, Key: "A", Elem: "", N: 4}, id(2, 0), id(1, 0)), of(0, 0, 0, api.Op{}, rising(12)...)} {
		if !Same(c, clone(c)) {
			t.Errorf("%v is not the same as itself", c)
		}
		for i, change := range changes {
			other := clone(c)
			change(&other)
			if Same(c, other) || Same(other, c) {
				t.Errorf("change %d: %v and %v are the same", i, c, other)
			}
		}
	}
	for _, c := range []api.Commit{{}, of(0, 1, 1, inc("a", 1)), of(9, 9, 9, api.Op{})} {
		other := c
		c.Parents, other.Parents = nil, []api.ID{}
		if !Same(c, other) || !Same(other, c) || !Same(other, other) {
			t.Errorf("%v with no parents is not the same as with none", c)
		}
	}
}

// P10.3, P3: commits that may be are the same just if their bytes are, and then have one id.
func TestSameBytes(t *testing.T) {
	l := good()
	for _, c := range good() {
		if len(c.Parents) == 0 {
			c.Parents = []api.ID{}
		}
		l = append(l, c)
	}
	type told struct {
		b []byte
		a api.ID
	}
	var tells []told
	for _, c := range l {
		b, _ := Put(c)
		a, _ := Hash(c)
		tells = append(tells, told{b, a})
	}
	for i, a := range l {
		for j, b := range l {
			same := Same(a, b)
			if (i%len(good()) == j%len(good())) != same {
				t.Fatalf("Same(%v, %v) = %v", a, b, same)
			}
			if same != bytes.Equal(tells[i].b, tells[j].b) || same != (tells[i].a == tells[j].a) {
				t.Fatalf("%v and %v: %v, by their bytes, or by their ids, it is not so", a, b, same)
			}
		}
	}
}

// room is a commit whose parents have room behind their end that is not told.
func room(c api.Commit) (full []api.ID, told api.Commit) {
	full = append(slices.Clone(c.Parents), id(77, 77), api.ID{})
	c.Parents = full[:len(c.Parents)]
	return full, c
}

// spoil writes over all of a list.
func spoil[T any](l []T, x T) {
	for i := range l {
		l[i] = x
	}
}

// R3: what is handed in stays, also behind its end, and what Put answers is new.
func TestOwnPut(t *testing.T) {
	for _, c := range all() {
		full, told := room(c)
		keep := slices.Clone(full)
		first, no := Put(told)
		want := slices.Clone(first)
		May(told)
		Merge(told)
		wantID, _ := Hash(told)
		Same(told, told)
		if !slices.Equal(full, keep) {
			t.Fatalf("%v: what is handed in is changed", c)
		}
		spoil(full, id(9, 9))
		if !bytes.Equal(first, want) {
			t.Fatalf("Put(%v): the bytes change with the commit", c)
		}
		copy(full, keep)
		second, _ := Put(told)
		spoil(first[:cap(first)], 99)
		if !slices.Equal(full, keep) || !bytes.Equal(second, want) {
			t.Fatalf("Put(%v): the commit, or other bytes, change with the bytes", c)
		}
		third, na := Put(told)
		if again, _ := Hash(told); !bytes.Equal(third, want) || na != no || again != wantID {
			t.Fatalf("Put(%v): another answer the next time", c)
		}
	}
}

// R3: what is handed in to Get stays, also behind its end, and the commit and what stands behind are new, and share nothing.
func TestOwnGet(t *testing.T) {
	for _, c := range good() {
		for _, s := range []string{"", "behind", "\x00\x01a\x02"} {
			full := append(append(wantPut(c), s...), " more"...)
			b, keep := full[:len(full)-5], slices.Clone(full)
			first, behind, no := Get(b)
			_ = append(behind, "more and more"...)
			if !bytes.Equal(full, keep) || no != api.OK {
				t.Fatalf("Get(%q), %d, changes what is handed in", keep, no)
			}
			spoil(full, '~')
			if !equal(first, c) || string(behind) != s {
				t.Fatalf("Get(%q): the answer, %v and %q, changes with what was handed in", keep, first, behind)
			}
			copy(full, keep)
			spoil(behind[:cap(behind)], '#')
			if !bytes.Equal(full, keep) || !equal(first, c) {
				t.Fatalf("Get(%q): what was handed in, or the commit, changes with what stands behind", keep)
			}
			second, rest, _ := Get(b)
			spoil(first.Parents[:cap(first.Parents)], id(9, 9))
			if !bytes.Equal(full, keep) || !equal(second, c) || string(rest) != s {
				t.Fatalf("Get(%q): what was handed in, or another answer, changes with the parents", keep)
			}
		}
	}
	// Nor is anything changed where there is none.
	for _, c := range bad() {
		b := append(wantPut(c), "behind"...)
		keep := slices.Clone(b)
		if Get(b); !bytes.Equal(b, keep) {
			t.Fatalf("Get(%q) changes what is handed in", keep)
		}
	}
}

// P1, R1, R5: every call ends, none panics, whatever it is given, and each answers as the chapter says.
func TestAny(t *testing.T) {
	next := chance(9)
	number := func() int { return numbers()[next(len(numbers()))] }
	text := func() string {
		return append(wrong(), "a", "b", "xyz", "abcdefgh", strings.Repeat("a", 1<<12))[next(len(wrong())+5)]
	}
	l := good()
	for range 60000 {
		c := clone(l[next(len(l))])
		for range next(4) {
			switch next(8) {
			case 0:
				c.Ev.Node = number()
			case 1:
				c.Ev.Seq = number()
			case 2:
				c.Gen = number()
			case 3:
				c.Parents = rising(next(11))
			case 4:
				if n := len(c.Parents); n > 0 {
					c.Parents[next(n)][next(2)*31] = byte(next(4))
				}
			case 5:
				c.Op = append(each(), wrongOps()...)[next(len(each())+len(wrongOps()))]
			case 6:
				c.Op = api.Op{Kind: next(6) - 1, Key: text(), Elem: text(), N: number()}
			case 7:
				c.Ev, c.Op = ev(-1, 0), api.Op{}
			}
		}
		checkMay(t, c)
		checkPut(t, c)
		d := l[next(len(l))]
		if got, want := Same(c, d), equal(c, d); got != want {
			t.Errorf("Same(%v, %v) = %v, want %v", c, d, got, want)
		}
		b := make([]byte, next(120))
		for i := range b {
			b[i] = []byte{byte(next(256)), byte(next(4)), 1}[next(3)]
		}
		checkGet(t, b)
		checkGet(t, append([]byte{byte(next(16)), byte(next(3)), byte(next(3)), byte(next(4))}, b...))
	}
}

// R1: long arguments, too, are answered.
func TestLong(t *testing.T) {
	for _, x := range []byte{0, 1, 2, 8, 'a', 127, 128, 255} {
		checkGet(t, bytes.Repeat([]byte{x}, 1<<20))
	}
	behind := strings.Repeat("a", 1<<20)
	for _, c := range []api.Commit{of(0, 1, 1, inc("a", 1)), of(7, 1, 2, set("a", "x"), rising(8)...), mergeOf(2, rising(8)...)} {
		isGot(t, append(wantPut(c), behind...), c, behind)
	}
	none(t, append([]byte{0, 1, 2, 255, 255, 255, 255, 15}, behind...))
	long := make([]api.ID, 1<<16)
	for i := range long {
		binary.BigEndian.PutUint32(long[i][:], uint32(i))
	}
	for _, c := range []api.Commit{of(0, 1, 2, inc("a", 1), long...), mergeOf(2, long...), of(0, 1, 1, inc(behind, 1)), of(0, 1, 1, set("a", behind)), of(-1, 0, 2, api.Op{Key: behind}, rising(2)...)} {
		if b, no := Put(c); May(c) || Merge(c) || len(b) != 0 || no != api.ErrArg || !Same(c, clone(c)) {
			t.Error("a commit that is too long may be")
		}
	}
	none(t, nil)
}
