package log

import (
	"bytes"
	"crypto/sha256"
	"encoding/binary"
	"math"
	"slices"
	"testing"

	"anabranch/api"
)

const most = 4000

// some are n bytes that look like chance, but are always the same.
func some(n int, seed uint32) []byte {
	b := make([]byte, n)
	for i := range b {
		seed = seed*1664525 + 1013904223
		b[i] = byte(seed >> 24)
	}
	return b
}

// chance answers numbers that seem random, the same ones each time.
func chance(seed uint32) func(int) int {
	return func(n int) int {
		seed = seed*1664525 + 1013904223
		return int(seed>>8) % n
	}
}

// begin is what a sum begins with.
func begin(b []byte) []byte {
	sum := sha256.Sum256(b)
	return sum[:4]
}

// num is a number in bytes, by Go's own varints.
func num(n uint64) []byte { return binary.AppendUvarint(nil, n) }

// wantFrame is a frame as the chapter says, however long the record is.
func wantFrame(b []byte) []byte { return slices.Concat(num(uint64(len(b))), b, begin(b)) }

// logOf is a log of such records.
func logOf(records ...[]byte) []byte {
	var b []byte
	for _, x := range records {
		b = append(b, wantFrame(x)...)
	}
	return b
}

// wantRead tries, from the beginning on, which one of all lengths makes a frame of what stands there.
func wantRead(b []byte) ([][]byte, int) {
	var l [][]byte
	for used := 0; ; {
		n := slices.IndexFunc(lengths, func(s []byte) bool { return bytes.HasPrefix(b[used:], s) })
		if n < 0 {
			return l, used
		}
		x := b[used+len(lengths[n]):]
		x = x[:min(n, len(x))]
		frame := wantFrame(x)
		if len(x) != n || !bytes.HasPrefix(b[used:], frame) {
			return l, used
		}
		l = append(l, x)
		used += len(frame)
	}
}

// lengths are all that frames begin with.
var lengths = func() [][]byte {
	var l [][]byte
	for n := range most + 1 {
		l = append(l, num(uint64(n)))
	}
	return l
}()

func same(a, b [][]byte) bool { return slices.EqualFunc(a, b, bytes.Equal) }

func clone(l [][]byte) [][]byte {
	l = slices.Clone(l)
	for i := range l {
		l[i] = slices.Clone(l[i])
	}
	return l
}

// short is as much of bytes as can be told.
func short(b []byte) []byte { return b[:min(len(b), 60)] }

// isRead asks that Read and Mend answer these records, and nothing behind them.
func isRead(t *testing.T, b []byte, want [][]byte, size int) {
	t.Helper()
	keep := slices.Clone(b)
	l, used := Read(b)
	if !same(l, want) || used != size {
		t.Errorf("Read of %d bytes, %v, is %d records, %d, want %d, %d", len(b), short(b), len(l), used, len(want), size)
	}
	m := Mend(b)
	if !bytes.Equal(m, keep[:size]) {
		t.Errorf("Mend of %d bytes, %v, is %d bytes, %v, want %d", len(b), short(b), len(m), short(m), size)
	}
	// What is mended is the same, and what is read of it, too.
	if again := Mend(m); !bytes.Equal(again, m) {
		t.Errorf("Mend of %v, which is mended, is %v", short(m), short(again))
	}
	if l, used := Read(m); !same(l, want) || used != size {
		t.Errorf("Read of %v, which is mended, is %d records, %d, want %d, %d", short(m), len(l), used, len(want), size)
	}
	if !bytes.Equal(b, keep) {
		t.Errorf("%v: what was handed in is changed", short(keep))
	}
}

// isWhole asks that of a log these records are read, and of the log with more behind it, too.
func isWhole(t *testing.T, records [][]byte, behind []byte) {
	t.Helper()
	b := logOf(records...)
	isRead(t, append(slices.Clone(b), behind...), records, len(b))
}

// isWritten asks for a frame behind what was there.
func isWritten(t *testing.T, b []byte, room int, x []byte) {
	t.Helper()
	got, no := Write(b, room, x)
	if want := slices.Concat(b, wantFrame(x)); no != api.OK || !bytes.Equal(got, want) {
		t.Errorf("Write of %v behind %d bytes, %d is %v, %v, want %v", short(x), len(b), room, short(got), no, short(want))
	}
}

// isNot asks for an error, and for nothing beside it.
func isNot(t *testing.T, name string, got []byte, no, want api.Errno) {
	t.Helper()
	if no != want || len(got) != 0 {
		t.Errorf("%s: %v, %v, want nothing and %v", name, short(got), no, want)
	}
}

// sizes are how long records are: ordinary ones, and those at the edges.
func sizes() []int {
	return []int{0, 1, 2, 3, 4, 5, 20, 126, 127, 128, 129, 255, 256, 1000, 3999, 4000}
}

// rows are the records of logs.
func rows() [][][]byte {
	rows := [][][]byte{nil}
	for _, n := range sizes() {
		rows = append(rows, [][]byte{some(n, 1)}, [][]byte{some(n, 2), some(5, 3)}, [][]byte{some(5, 4), some(n, 5)}, [][]byte{make([]byte, n), {}, some(n, 6)})
	}
	to := chance(3)
	for i := range 20 {
		var l [][]byte
		for range i {
			l = append(l, some(to(40), uint32(to(1000))))
		}
		rows = append(rows, l)
	}
	// Records that are frames themselves, or parts of these.
	frame := wantFrame([]byte("abc"))
	return append(rows, [][]byte{frame, frame[:4], wantFrame(frame), frame[1:]}, [][]byte{{}, {}, {}}, [][]byte{{0}, {0}, {1}}, [][]byte{logOf(nil, nil, nil)})
}

// few are those rows that are not long.
func few() [][][]byte {
	return slices.DeleteFunc(rows(), func(l [][]byte) bool { return len(logOf(l...)) > 400 })
}

// torn are bytes that don't begin with a frame.
func torn() [][]byte {
	abc := []byte("abc")
	var l [][]byte
	add := func(parts ...[]byte) { l = append(l, slices.Concat(parts...)) }
	// A length of more than 4000, behind which all that it asks for stands.
	for _, n := range []int{4001, 4002, 4095, 4096, 4097, 5000, 8000, 16383, 16384, 70000} {
		add(wantFrame(some(n, 7)))
	}
	// A length that is written with more bytes than it needs.
	for _, x := range [][]byte{nil, {7}, abc, some(127, 8)} {
		n := byte(len(x)) | 128
		for _, s := range [][]byte{{n, 0}, {n, 128, 0}, {n, 128, 128, 128, 128, 128, 128, 128, 128, 0}, {n, 128, 128, 128, 128, 128, 128, 128, 128, 128, 0}} {
			add(s, x, begin(x))
		}
	}
	add([]byte{128, 129, 0}, some(128, 9), begin(some(128, 9)))
	add([]byte{160, 31 | 128, 0}, some(4000, 9), begin(some(4000, 9)))
	// One that doesn't end.
	for n := 1; n < 30; n++ {
		for _, digit := range []byte{128, 129, 131, 255} {
			add(bytes.Repeat([]byte{digit}, n))
			add(bytes.Repeat([]byte{digit}, max(n, 10)), []byte{0}, begin(nil))
			add(bytes.Repeat([]byte{digit}, max(n, 10)), []byte{1}, abc, begin(abc))
		}
	}
	// One as great as a number can be, or that is another one when it is taken for an int, or for a shorter one.
	for _, n := range []uint64{math.MaxUint64, math.MaxInt64, math.MaxUint32, math.MaxInt32, math.MaxUint16} {
		for more := range uint64(24) {
			add(num(n-more), abc, begin(abc))
			add(num(n-more), begin(nil))
			if n+more+1 > 4000 {
				add(num(n+more+1), some(int(more)%8, 10), begin(some(int(more)%8, 10)))
			}
		}
	}
	for k := 12; k < 64; k++ {
		add(num(1<<k+3), abc, begin(abc))
		add(num(-(1<<k)+3), abc, begin(abc))
	}
	add(bytes.Repeat([]byte{255}, 9), []byte{2}, abc, begin(abc))
	add([]byte{131, 128, 128, 128, 128, 128, 128, 128, 128, 2}, abc, begin(abc))
	// One that asks for more than there is, or for less.
	for _, n := range []uint64{4, 5, 6, 7, 8, 9, 100, 127, 128, 3999, 4000} {
		add(num(n), abc, begin(abc))
		add(num(n), abc)
		add(num(n))
	}
	add([]byte{2}, abc, begin(abc))
	add([]byte{0}, abc, begin(abc))
	// Another sum, another part of it, its order turned, none.
	sum := sha256.Sum256(abc)
	for i := 1; i <= 28; i++ {
		add([]byte{3}, abc, sum[i:])
	}
	for n := range 4 {
		add([]byte{3}, abc, sum[:n])
	}
	add([]byte{3}, abc, []byte{sum[3], sum[2], sum[1], sum[0]})
	add([]byte{3}, abc, begin([]byte{3, 'a', 'b', 'c'}))
	add([]byte{3}, abc, begin(nil))
	add([]byte{3}, abc, make([]byte, 40))
	add([]byte{0}, make([]byte, 40))
	add([]byte{0, 0, 0, 0, 0})
	add(make([]byte, 5000))
	add(bytes.Repeat([]byte{255}, 5000))
	add(abc)
	return l
}

// P14.1: the chapter's example, and others with sums that are well known.
func TestExample(t *testing.T) {
	for _, q := range []struct {
		x    string
		want []byte
	}{
		{"", []byte{0, 227, 176, 196, 66}},
		{"abc", []byte{3, 97, 98, 99, 186, 120, 22, 191}},
		{"a", []byte{1, 97, 202, 151, 129, 18}},
		{"The quick brown fox jumps over the lazy dog", append([]byte("+The quick brown fox jumps over the lazy dog"), 215, 168, 251, 179)},
	} {
		b, no := Frame([]byte(q.x))
		if no != api.OK || !bytes.Equal(b, q.want) {
			t.Errorf("Frame(%q) = %v, %v, want %v", q.x, b, no, q.want)
		}
		isRead(t, q.want, [][]byte{[]byte(q.x)}, len(q.want))
	}
	if b, no := Frame(nil); no != api.OK || !bytes.Equal(b, []byte{0, 227, 176, 196, 66}) {
		t.Errorf("Frame(nil) = %v, %v", b, no)
	}
}

// P14.1: of records of all lengths that may be.
func TestFrame(t *testing.T) {
	for n := range most + 1 {
		for _, x := range [][]byte{some(n, uint32(n)), make([]byte, n)} {
			if b, no := Frame(x); no != api.OK || !bytes.Equal(b, wantFrame(x)) {
				t.Errorf("Frame of %d bytes = %v, %v, want %v", n, short(b), no, short(wantFrame(x)))
			}
		}
	}
	// How the length stands there, and how much there is.
	for n, want := range map[int][]byte{0: {0}, 1: {1}, 127: {127}, 128: {128, 1}, 3999: {159, 31}, 4000: {160, 31}} {
		b, no := Frame(some(n, 11))
		if no != api.OK || !bytes.HasPrefix(b, want) || len(b) != len(want)+n+4 {
			t.Errorf("Frame of %d bytes = %v, %v, of %d bytes", n, short(b), no, len(b))
		}
	}
}

// P14.1: more than 4000 bytes.
func TestFrameOver(t *testing.T) {
	for _, n := range []int{4001, 4002, 4095, 4096, 5000, 8000, 8001, 1 << 14, 1 << 16, 1<<16 + 1, 1 << 22} {
		b, no := Frame(some(n, 12))
		isNot(t, "Frame", b, no, 5)
		b, no = Write(nil, math.MaxInt, some(n, 12))
		isNot(t, "Write", b, no, 5)
	}
}

// P14.2: one frame and several, of records of all kinds.
func TestRead(t *testing.T) {
	for _, l := range rows() {
		isWhole(t, l, nil)
		var b []byte
		for _, x := range l {
			frame, _ := Frame(x)
			b = append(b, frame...)
		}
		isRead(t, b, l, len(b))
	}
	isRead(t, nil, nil, 0)
	isRead(t, []byte{}, nil, 0)
}

// P14.2: anything behind the last whole frame.
func TestBehind(t *testing.T) {
	for _, l := range few() {
		for _, b := range torn() {
			isWhole(t, l, b)
		}
		for x := range 256 {
			isWhole(t, l, []byte{byte(x)})
		}
	}
	for _, l := range rows() {
		for _, b := range [][]byte{{0}, {128}, {255}, {0, 227, 176, 196}, {0, 227, 176, 196, 67}, some(300, 13)} {
			isWhole(t, l, b)
		}
	}
}

// P14.2: a broken frame ahead of whole ones, and among these.
func TestAhead(t *testing.T) {
	whole := [][]byte{[]byte("abc"), {}, some(200, 14), some(4000, 15)}
	for _, b := range torn() {
		all := slices.Concat(b, logOf(whole...))
		isRead(t, all, nil, 0)
		isWhole(t, whole[:2], all)
	}
}

// P14.2: each byte spoilt, of lengths, records and sums.
func TestSpoilt(t *testing.T) {
	x, y, z := []byte("x"), []byte("abc"), []byte{}
	b := logOf(x, y, z)
	frames := [][]byte{wantFrame(x), wantFrame(y), wantFrame(z)}
	ends := []int{len(frames[0]), len(frames[0]) + len(frames[1]), len(b)}
	for i := range b {
		at := slices.IndexFunc(ends, func(end int) bool { return i < end })
		for bits := 1; bits < 256; bits++ {
			s := slices.Clone(b)
			s[i] ^= byte(bits)
			isRead(t, s, [][]byte{x, y, z}[:at], append([]int{0}, ends...)[at])
		}
	}
	// Of records at the edges, too.
	for _, n := range []int{127, 128, 3999, 4000} {
		b := logOf(y, some(n, 16), y)
		for i := len(frames[1]); i < len(b)-len(frames[1]); i += 1 + n/1000 {
			for _, bits := range []byte{1, 128, 255} {
				s := slices.Clone(b)
				s[i] ^= bits
				isRead(t, s, [][]byte{y}, len(frames[1]))
			}
		}
		for i := len(b) - len(frames[1]) - 4; i < len(b)-len(frames[1]); i++ {
			for bit := range 8 {
				s := slices.Clone(b)
				s[i] ^= 1 << bit
				isRead(t, s, [][]byte{y}, len(frames[1]))
			}
		}
	}
}

// P14.2: bytes taken out, put in, and doubled.
func TestShifted(t *testing.T) {
	b := logOf([]byte("abc"), nil, some(30, 17), []byte("z"))
	for i := range b {
		for _, s := range [][]byte{slices.Delete(slices.Clone(b), i, i+1), slices.Insert(slices.Clone(b), i, 0), slices.Insert(slices.Clone(b), i, b[i]), slices.Concat(b, b[i:]), slices.Concat(b[i:], b)} {
			l, used := wantRead(s)
			isRead(t, s, l, used)
		}
	}
}

// P14.4, P4: whatever a log is cut to, its records are a beginning of those that it had.
func TestCut(t *testing.T) {
	for _, l := range rows() {
		b, whole, size := logOf(l...), 0, 0
		for n := range len(b) + 1 {
			if whole < len(l) && n == size+len(wantFrame(l[whole])) {
				whole, size = whole+1, n
			}
			// Sums take their time: of the long ones not all.
			if len(b) > 2000 && n != size && n < len(b)-9 && n%97 > 0 {
				continue
			}
			isRead(t, b[:n:n], l[:whole], size)
			// Nor is it seen what stood behind.
			isRead(t, b[:n], l[:whole], size)
		}
		if whole != len(l) {
			t.Errorf("only %d of %d records", whole, len(l))
		}
	}
}

// P14.2, P14.4: a sum that is cut where it ends in noughts, which are not there, then.
func TestCutNoughts(t *testing.T) {
	for noughts := 1; noughts <= 2; noughts++ {
		x := num(1 << 20)
		for !bytes.HasSuffix(begin(x), make([]byte, noughts)) {
			n, _ := binary.Uvarint(x)
			x = num(n + 1)
		}
		b := logOf([]byte("abc"), x)
		for n := 1; n <= 4; n++ {
			isRead(t, b[:len(b)-n], [][]byte{[]byte("abc")}, 8)
			isRead(t, slices.Clip(b[:len(b)-n]), [][]byte{[]byte("abc")}, 8)
			isRead(t, slices.Clip(b[8:len(b)-n]), nil, 0)
		}
		isRead(t, b, [][]byte{[]byte("abc"), x}, len(b))
	}
}

// P14.4, P4: what is written, record by record, with cuts between, each mended.
func TestCrash(t *testing.T) {
	to := chance(23)
	for range 300 {
		var b []byte
		var had [][]byte
		for range 30 {
			x := some(to(150), uint32(to(1000)))
			next, no := Write(b, 1<<20, x)
			if no != api.OK {
				t.Fatal(no)
			}
			if to(3) > 0 {
				b, had = next, append(had, x)
			} else {
				// As much as that of the last record stays.
				b = Mend(next[:len(b)+to(len(next)-len(b))])
			}
			isRead(t, b, had, len(b))
		}
	}
}

// P14.3: a room that is just enough, and such as is not.
func TestWrite(t *testing.T) {
	for _, b := range before() {
		for _, x := range [][]byte{nil, {}, {0}, []byte("abc"), some(127, 18), some(128, 18), some(4000, 18)} {
			enough := len(b) + len(wantFrame(x))
			for _, room := range []int{enough, enough + 1, 1 << 20 * 2, 1 << 32, math.MaxInt - 1, math.MaxInt} {
				isWritten(t, b, room, x)
			}
			for _, room := range []int{enough - 1, enough - 4, len(b) + len(x), len(b), len(x), 4, 1, 0, -1, -enough, -1 << 32, math.MinInt + 1, math.MinInt} {
				if room < enough {
					got, no := Write(b, room, x)
					isNot(t, "Write", got, no, 4)
				}
			}
		}
		// Of two errors the one named first.
		for _, room := range []int{math.MaxInt, len(b) + 4007, len(b) + 4006, len(b) + 4001, len(b), 0, -1, math.MinInt} {
			got, no := Write(b, room, some(4001, 19))
			isNot(t, "Write", got, no, 5)
		}
	}
}

// before are what a record is written behind: logs, some of them torn, and bytes that are none.
func before() [][]byte {
	l := [][]byte{nil, {}, {0}, {255}, some(50, 20), make([]byte, 300)}
	for i, r := range rows() {
		b := logOf(r...)
		l = append(l, b, b[:len(b)-min(i, len(b))])
	}
	return append(l, torn()...)
}

// P14.3, P14.2: what is written is read, behind all that was there, where that was mended.
func TestWritten(t *testing.T) {
	for _, b := range before() {
		m := Mend(b)
		l, _ := wantRead(b)
		for _, x := range [][]byte{nil, []byte("abc"), some(128, 21), some(4000, 21)} {
			got, no := Write(m, math.MaxInt, x)
			if no != api.OK {
				t.Errorf("Write of %v: %v", short(x), no)
			}
			isRead(t, got, append(slices.Clone(l), x), len(got))
		}
	}
	// Where it was not, what is torn stays, and nothing is read behind it.
	b := logOf([]byte("abc"))
	got, no := Write(b[:len(b)-1], 1000, []byte("abc"))
	if no != api.OK || len(got) != 2*len(b)-1 {
		t.Errorf("Write behind what is torn is %v, %v", got, no)
	}
	isRead(t, got, nil, 0)
}

// P14.3: a log that is written until it is full.
func TestFull(t *testing.T) {
	var b []byte
	for i := range 14 {
		next, no := Write(b, 100, []byte("ab"))
		if no != api.OK || len(next) != 7*(i+1) {
			t.Fatalf("record %d: %v, %d bytes", i, no, len(next))
		}
		b = next
	}
	got, no := Write(b, 100, []byte("ab"))
	isNot(t, "Write", got, no, 4)
	got, no = Write(b, 100, nil)
	isNot(t, "Write", got, no, 4)
	isWritten(t, b[:95], 100, nil)
	if l, used := Read(b); len(l) != 14 || used != 98 {
		t.Errorf("Read is %q, %d", l, used)
	}
}

// spoil changes all that bytes have room for, behind their end, too.
func spoil(b []byte) {
	b = b[:cap(b)]
	for i := range b {
		b[i] ^= 0x5a
	}
}

// bytesOf are all calls that answer bytes, of a log and a record.
func bytesOf() map[string]func(b, x []byte) []byte {
	return map[string]func(b, x []byte) []byte{
		"Frame":      func(_, x []byte) []byte { r, _ := Frame(x); return r },
		"Mend":       func(b, _ []byte) []byte { return Mend(b) },
		"Write":      func(b, x []byte) []byte { r, _ := Write(b, math.MaxInt, x); return r },
		"Write full": func(b, x []byte) []byte { r, _ := Write(b, len(b), x); return r },
	}
}

// R3, R5: what is handed in stays, also behind its end, what is answered is new, and the next answer is the same.
func TestOwn(t *testing.T) {
	for name, f := range bytesOf() {
		for _, b := range before() {
			for _, x := range [][]byte{nil, {}, []byte("abc"), some(4000, 22), some(4001, 22)} {
				// There is room behind both.
				log, record := append(slices.Clone(b), make([]byte, 5000)...), append(slices.Clone(x), make([]byte, 5000)...)
				keepLog, keepRecord := slices.Clone(log), slices.Clone(record)
				first := f(log[:len(b)], record[:len(x)])
				want := slices.Clone(first)
				if !bytes.Equal(log, keepLog) || !bytes.Equal(record, keepRecord) {
					t.Fatalf("%s changes what is handed in", name)
				}
				spoil(log)
				spoil(record)
				if !bytes.Equal(first, want) {
					t.Fatalf("%s: the answer changes with what was handed in", name)
				}
				copy(log, keepLog)
				copy(record, keepRecord)
				second := f(log[:len(b)], record[:len(x)])
				spoil(first)
				if !bytes.Equal(log, keepLog) || !bytes.Equal(record, keepRecord) || !bytes.Equal(second, want) {
					t.Fatalf("%s: what was handed in, or another answer, changes with the answer", name)
				}
				if third := f(log[:len(b)], record[:len(x)]); !bytes.Equal(third, want) {
					t.Fatalf("%s: another answer the next time", name)
				}
			}
		}
	}
}

// R3: one and the same bytes as log and as record.
func TestOwnBoth(t *testing.T) {
	b := logOf([]byte("abc"), some(20, 24))
	keep := slices.Clone(b)
	isWritten(t, b, 1000, b)
	isWritten(t, b, 1000, b[3:9])
	got, _ := Write(b[:8], 1000, b[2:6])
	spoil(got)
	if !bytes.Equal(b, keep) {
		t.Errorf("what was handed in is %v, was %v", b, keep)
	}
}

// R3, R5: the same of what is read: each record is new.
func TestOwnRead(t *testing.T) {
	for _, b := range before() {
		log := append(slices.Clone(b), make([]byte, 100)...)
		keep := slices.Clone(log)
		first, used := Read(log[:len(b)])
		want := clone(first)
		spoil(log)
		if !same(first, want) {
			t.Fatalf("%v: the answer changes with what was handed in", short(b))
		}
		copy(log, keep)
		second, size := Read(log[:len(b)])
		if !same(second, want) || used != size || !bytes.Equal(log, keep) {
			t.Fatalf("%v: another answer the next time, or what was handed in is changed", short(b))
		}
		for i := range first {
			spoil(first[i])
			_ = append(first[i], "more and more"...)
			first[i] = nil
			if !bytes.Equal(log, keep) || !same(second, want) || !same(first[i+1:], want[i+1:]) {
				t.Fatalf("%v: what was handed in, another record, or another answer, changes with record %d", short(b), i)
			}
		}
	}
}

// P1: long logs, of records of no bytes, of long ones, and of such as are not whole.
func TestLong(t *testing.T) {
	const room = 1 << 20
	for _, x := range [][]byte{nil, {7}, some(4000, 25)} {
		frame := wantFrame(x)
		n := room / len(frame)
		b := bytes.Repeat(frame, n)
		l, used := Read(append(b, frame[:len(frame)-1]...))
		if len(l) != n || used != len(b) || !bytes.Equal(l[0], x) || !bytes.Equal(l[n-1], x) {
			t.Errorf("of %d records of %d bytes %d are read, %d", n, len(x), len(l), used)
		}
		if m := Mend(append(b, frame[:len(frame)-1]...)); !bytes.Equal(m, b) {
			t.Errorf("Mend leaves %d of %d bytes", len(m), len(b))
		}
		if room-len(b) < len(frame) {
			got, no := Write(b, room, x)
			isNot(t, "Write", got, no, 4)
		}
		isWritten(t, b, len(b)+len(frame), x)
	}
	for _, b := range [][]byte{make([]byte, 1<<24), bytes.Repeat([]byte{255}, 1<<24), wantFrame(some(1<<24, 26))} {
		isRead(t, b, nil, 0)
		isWritten(t, b, 1<<25, nil)
	}
}

// P1, R1: no call panics, and each answers as the chapter says, whatever it is given.
func TestAny(t *testing.T) {
	to := chance(29)
	rooms := []int{0, 1, -1, 4, 5, 6, 9, 100, 1 << 20, 1 << 32, math.MaxInt, math.MinInt}
	parts := torn()
	for range 20000 {
		var b []byte
		for range to(5) {
			switch to(4) {
			case 0:
				b = append(b, wantFrame(some(to(12), uint32(to(99))))...)
			case 1:
				b = append(b, byte(to(256)))
			case 2:
				b = append(b, short(parts[to(len(parts))])...)
			case 3:
				if len(b) > 0 {
					b[to(len(b))] ^= byte(to(256))
				}
			}
		}
		l, used := wantRead(b)
		isRead(t, b, l, used)
		x := some(to(9), uint32(to(99)))
		room := rooms[to(len(rooms))]
		if got, no := Write(b, room, x); no != api.OK {
			isNot(t, "Write", got, no, 4)
			if len(b)+len(x)+5 <= room {
				t.Errorf("%d and %d bytes have no room in %d", len(b), len(x), room)
			}
		} else {
			isWritten(t, b, room, x)
			if len(b)+len(x)+5 > room {
				t.Errorf("%d and %d bytes have room in %d", len(b), len(x), room)
			}
		}
	}
}

// P14.2: all bytes of up to two, and all that a length of two may stand ahead of.
func TestFewBytes(t *testing.T) {
	for i := range 256 {
		isRead(t, []byte{byte(i)}, nil, 0)
		for j := range 256 {
			b := []byte{byte(i), byte(j)}
			isRead(t, b, nil, 0)
			b = append(b, begin(nil)...)
			l, used := wantRead(b)
			isRead(t, b, l, used)
		}
	}
}
