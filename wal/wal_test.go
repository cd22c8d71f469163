package wal_test

import (
	"bytes"
	"encoding/binary"
	"math"
	"math/rand"
	"slices"
	"testing"

	"bailee/api"
	"bailee/blocks"
	"bailee/wal"
)

// top is the greatest number of all.
const top = math.MaxUint64

// edges are numbers of blocks: ordinary ones, and those at whose bytes something might go wrong.
var edges = []uint64{
	1, 2, 127, 128, 255, 256, 257, 65535, 65536, 1<<24 - 1, 1 << 24, 1<<32 - 1, 1 << 32, 1<<40 + 5, 1 << 48, 1<<56 - 1, 1 << 56,
	0x0102030405060708, 1<<63 - 1, 1 << 63, 1<<63 + 1, top - 2, top - 1, top,
}

// sizes are lengths of records, and how many blocks each has.
var sizes = []struct{ bytes, blocks int }{
	{0, 1}, {1, 1}, {2, 1}, {55, 1}, {109, 1}, {110, 1}, {111, 2}, {112, 2}, {219, 2}, {220, 2}, {221, 3}, {330, 3}, {331, 4}, {1000, 10}, {1100, 10}, {1101, 11},
}

// full are so many bytes, none of them 0, unlike those of other seeds.
func full(n, seed int) []byte {
	b := make([]byte, n)
	for i := range b {
		b[i] = byte(1 + (i*7+seed*31)%251)
	}
	return b
}

// block is one of a log, put together from the words: number, count, is it the last one, bytes, noughts, number.
func block(k uint64, part []byte, last byte) []byte {
	b := binary.BigEndian.AppendUint64(nil, k)
	b = append(b, byte(len(part)), last)
	b = append(b, part...)
	b = append(b, make([]byte, 110-len(part))...)
	return binary.BigEndian.AppendUint64(b, k)
}

// inner is a block that isn't its record's last one.
func inner(k uint64, seed int) []byte { return block(k, full(110, seed), 0) }

// final is a block that is its record's last one.
func final(k uint64, n, seed int) []byte { return block(k, full(n, seed), 1) }

// row is the blocks of a record, their numbers from k on.
func row(k uint64, record []byte) [][]byte {
	var l [][]byte
	for len(record) > 110 {
		l = append(l, block(k, record[:110], 0))
		record = record[110:]
		k++
	}
	return append(l, block(k, record, 1))
}

// ends is a block that isn't whole, with these numbers.
func ends(first, last uint64) []byte {
	b := bytes.Repeat([]byte{200}, 128)
	binary.BigEndian.PutUint64(b, first)
	binary.BigEndian.PutUint64(b[120:], last)
	return b
}

// disk is a new one, with these blocks from the front on, and others behind, so many in all.
func disk(t *testing.T, n int, l ...[]byte) *blocks.Disk {
	t.Helper()
	d, err := blocks.New(n)
	if err != api.OK {
		t.Fatal(n, err)
	}
	for i, b := range l {
		lays(t, d, i, b)
	}
	return d
}

// lays writes a block, which must be done.
func lays(t *testing.T, d *blocks.Disk, i int, b []byte) {
	t.Helper()
	if err := d.Write(i, b); err != api.OK {
		t.Fatal("write of", i, err)
	}
}

// all are a disk's blocks.
func all(t *testing.T, d *blocks.Disk) [][]byte {
	t.Helper()
	l := make([][]byte, d.Len())
	for i := range l {
		b, err := d.Read(i)
		if err != api.OK {
			t.Fatal("read of", i, err)
		}
		l[i] = b
	}
	return l
}

// opens opens a log, which must be done.
func opens(t *testing.T, d *blocks.Disk, from, n int) *wal.Log {
	t.Helper()
	l, err := wal.Open(d, from, n)
	if err != api.OK || l == nil {
		t.Fatal("open of", from, n, err)
	}
	return l
}

// begins begins a log, which must be done.
func begins(t *testing.T, d *blocks.Disk, from, n int, least uint64) *wal.Log {
	t.Helper()
	l, err := wal.Begin(d, from, n, least)
	if err != api.OK || l == nil {
		t.Fatal("begin of", from, n, least, err)
	}
	return l
}

// adds adds a record, which must be done.
func adds(t *testing.T, l *wal.Log, b []byte) {
	t.Helper()
	if err := l.Add(b); err != api.OK {
		t.Fatal("add of", len(b), err)
	}
}

// refused adds a record, which must be refused.
func refused(t *testing.T, l *wal.Log, b []byte, want api.Errno) {
	t.Helper()
	if err := l.Add(b); err != want {
		t.Errorf("add of %d: %d and not %d", len(b), err, want)
	}
}

// state is what a log tells.
type state struct {
	records     [][]byte
	first, next uint64
	free        int
}

// has fails unless a log tells this.
func has(t *testing.T, l *wal.Log, want state) {
	t.Helper()
	if got := l.Records(); !same(got, want.records) {
		t.Errorf("records: %d and not %d, or other bytes", len(got), len(want.records))
	}
	if l.First() != want.first || l.Next() != want.next || l.Free() != want.free {
		t.Errorf("first %d, next %d, free %d, and not %d, %d, %d", l.First(), l.Next(), l.Free(), want.first, want.next, want.free)
	}
}

// same tells whether two lists of rows are one.
func same(a, b [][]byte) bool { return slices.EqualFunc(a, b, bytes.Equal) }

// with is a list with one more.
func with(l [][]byte, b []byte) [][]byte { return append(slices.Clone(l), b) }

// whole is the promise's word worked out in another way: byte by byte.
func whole(b []byte) (k uint64, part []byte, last, ok bool) {
	if len(b) != 128 {
		return 0, nil, false, false
	}
	k = binary.BigEndian.Uint64(b)
	n := int(b[8])
	ok = k >= 1 && k == binary.BigEndian.Uint64(b[120:]) && (b[9] == 1 && n <= 110 || b[9] == 0 && n == 110)
	if !ok {
		return 0, nil, false, false
	}
	for _, c := range b[10+n : 120] {
		ok = ok && c == 0
	}
	return k, b[10 : 10+n], b[9] == 1, ok
}

// told is what a log of these blocks tells, worked out from the promise's words in another way: first how far they are taken, then which of them are last ones.
func told(l [][]byte) state {
	n := len(l)
	want := state{free: n}
	for _, b := range l {
		want.next = max(want.next, binary.BigEndian.Uint64(b[:8]), binary.BigEndian.Uint64(b[120:]))
	}
	want.next++
	taken := 0
	for taken < n {
		k, _, _, ok := whole(l[taken])
		if ok && taken > 0 {
			ahead, _, last, _ := whole(l[taken-1])
			ok = k > ahead && (last || k-ahead == 1)
		}
		if !ok {
			break
		}
		taken++
	}
	begin := 0
	for i := range taken {
		if _, _, last, _ := whole(l[i]); last {
			var record []byte
			for _, b := range l[begin : i+1] {
				_, part, _, _ := whole(b)
				record = append(record, part...)
			}
			want.records = append(want.records, record)
			begin = i + 1
		}
	}
	want.free = n - begin
	if begin > 0 {
		want.first, _, _, _ = whole(l[0])
	}
	return want
}

// --- P9.1: Whole, Blocks

// isWhole fails unless a block is whole, with this number.
func isWhole(t *testing.T, b []byte, want uint64) {
	t.Helper()
	if k, ok := wal.Whole(b); k != want || !ok {
		t.Errorf("%v: %d %v and not %d", b, k, ok, want)
	}
}

// isnt fails if a block is whole.
func isnt(t *testing.T, b []byte) {
	t.Helper()
	if k, ok := wal.Whole(b); k != 0 || ok {
		t.Errorf("%v: %d %v", b, k, ok)
	}
}

// One that is written out, byte by byte.
func TestP91WholeWrittenOut(t *testing.T) {
	b := make([]byte, 128)
	copy(b, []byte{1, 2, 3, 4, 5, 6, 7, 8, 3, 1, 'a', 'b', 'c'})
	copy(b[120:], []byte{1, 2, 3, 4, 5, 6, 7, 8})
	isWhole(t, b, 0x0102030405060708)
	d := disk(t, 1, b)
	has(t, opens(t, d, 0, 1), state{[][]byte{[]byte("abc")}, 0x0102030405060708, 0x0102030405060709, 0})
}

func TestP91WholeNumbers(t *testing.T) {
	for _, k := range edges {
		for n := range 111 {
			isWhole(t, final(k, n, n), k)
			isWhole(t, block(k, make([]byte, n), 1), k)
		}
		isWhole(t, inner(k, 3), k)
		isWhole(t, block(k, make([]byte, 110), 0), k)
	}
}

func TestP91WholeOfZero(t *testing.T) {
	isnt(t, make([]byte, 128))
	isnt(t, inner(0, 1))
	for n := range 111 {
		isnt(t, final(0, n, 1))
	}
}

func TestP91WholeCounts(t *testing.T) {
	for n := range 256 {
		for last := range 256 {
			b := block(9, nil, byte(last))
			b[8] = byte(n)
			if last == 1 && n <= 110 || last == 0 && n == 110 {
				isWhole(t, b, 9)
			} else {
				isnt(t, b)
			}
			// With no noughts at all among the bytes only a full one may be.
			copy(b[10:], full(110, 2))
			if last <= 1 && n == 110 {
				isWhole(t, b, 9)
			} else {
				isnt(t, b)
			}
		}
	}
}

// Behind a record's bytes there are noughts, and nothing else.
func TestP91WholeNoughts(t *testing.T) {
	for n := range 111 {
		for at := n; at < 110; at++ {
			for _, c := range []byte{1, 128, 255} {
				b := final(7, n, 4)
				b[10+at] = c
				isnt(t, b)
			}
		}
	}
}

func TestP91WholeNumbersAtBothEnds(t *testing.T) {
	for _, k := range edges {
		for _, other := range append(edges, 0) {
			b := inner(k, 5)
			binary.BigEndian.PutUint64(b[120:], other)
			if k == other {
				isWhole(t, b, k)
			} else {
				isnt(t, b)
			}
		}
	}
	// The highest byte comes first, at both ends.
	b := inner(258, 5)
	slices.Reverse(b[:8])
	isnt(t, b)
	slices.Reverse(b[120:])
	isWhole(t, b, 0x0201<<48)
}

// Of each block each bit is changed: only those of the record's bytes may be, and a last one may have more of the noughts for its own.
func TestP91WholeBits(t *testing.T) {
	for _, was := range [][]byte{inner(258, 6), final(77, 0, 6), final(77, 1, 6), final(78, 60, 6), final(79, 109, 6), final(80, 110, 6)} {
		k, part, last, _ := whole(was)
		for bit := range 128 * 8 {
			b := bytes.Clone(was)
			b[bit/8] ^= 1 << (bit % 8)
			switch {
			case bit/8 >= 10 && bit/8 < 10+len(part):
				isWhole(t, b, k)
			// A last one of 110 bytes and a block that isn't the last one are unlike in this bit alone.
			case bit == 9*8 && len(part) == 110:
				isWhole(t, b, k)
			case bit/8 == 8 && last && int(b[8]) > len(part) && b[8] <= 110:
				isWhole(t, b, k)
			default:
				isnt(t, b)
			}
		}
	}
}

func TestP91WholeLengths(t *testing.T) {
	isnt(t, nil)
	isnt(t, []byte{})
	long := append(final(5, 110, 1), final(5, 110, 1)...)
	for n := range 257 {
		if n == 128 {
			isWhole(t, long[:n], 5)
			isWhole(t, long[128:], 5)
			continue
		}
		isnt(t, long[:n])
		isnt(t, long[:n:n])
		isnt(t, make([]byte, n))
	}
	isnt(t, make([]byte, 127, 128))
	isnt(t, make([]byte, 65536))
}

func TestP91WholeOfAnyBytes(t *testing.T) {
	r := rand.New(rand.NewSource(91))
	for range 20000 {
		b := final(uint64(1+r.Intn(3)), r.Intn(111), r.Intn(9))
		for range r.Intn(3) {
			b[r.Intn(128)] = byte(r.Intn(4))
		}
		want, _, _, is := whole(b)
		if !is {
			want = 0
		}
		if k, ok := wal.Whole(b); k != want || ok != is {
			t.Fatal(b, k, ok, want, is)
		}
	}
}

func TestP91Blocks(t *testing.T) {
	for _, s := range sizes {
		if got := wal.Blocks(s.bytes); got != s.blocks {
			t.Error(s.bytes, got, s.blocks)
		}
	}
	for n := 1; n < 5000; n++ {
		want := n / 110
		if n%110 != 0 {
			want++
		}
		if got := wal.Blocks(n); got != want {
			t.Error(n, got, want)
		}
	}
	if wal.Room != 110 {
		t.Error(wal.Room)
	}
}

func TestP91BlocksEdges(t *testing.T) {
	for _, n := range []int{0, -1, -2, -109, -110, -111, -1000, math.MinInt + 1, math.MinInt} {
		if got := wal.Blocks(n); got != 1 {
			t.Error(n, got)
		}
	}
	for _, c := range []struct{ n, want int }{
		{1 << 20, 9533}, {1<<31 - 1, 19522579}, {1 << 31, 19522579}, {math.MaxInt, 83848836698679781}, {math.MaxInt - 7, 83848836698679780}, {math.MaxInt - 117, 83848836698679779},
	} {
		if got := wal.Blocks(c.n); got != c.want {
			t.Error(c.n, got, c.want)
		}
	}
}

// --- P9.2: Open, Begin

// hides fails unless neither Open nor Begin tells more than this error.
func hides(t *testing.T, d *blocks.Disk, from, n int, want api.Errno) {
	t.Helper()
	if l, err := wal.Open(d, from, n); err != want || l != nil {
		t.Error("open of", from, n, l != nil, err, "and not", want)
	}
	if l, err := wal.Begin(d, from, n, 5); err != want || l != nil {
		t.Error("begin of", from, n, l != nil, err, "and not", want)
	}
}

// misfits are rows of blocks that a disk of so many hasn't.
func misfits(n int) [][2]int {
	l := [][2]int{{0, 0}, {0, -1}, {0, math.MinInt}, {-1, 1}, {-1, 2}, {-1, n}, {-1, n + 1}, {-n, n}, {math.MinInt, 1}, {math.MinInt, math.MaxInt}, {math.MinInt, math.MinInt}}
	l = append(l, [][2]int{{0, n + 1}, {1, n}, {n, 1}, {n, 0}, {n - 1, 2}, {n + 1, 1}, {n + 1, -1}, {n + 2, -2}, {-1, -1}}...)
	return append(l, [][2]int{{math.MaxInt, 1}, {1, math.MaxInt}, {math.MaxInt, math.MaxInt}, {0, math.MaxInt}, {math.MaxInt, 0}, {math.MaxInt, math.MinInt}, {2, math.MaxInt - 1}}...)
}

func TestP92Args(t *testing.T) {
	for _, n := range []int{1, 2, 3, 9, 65536} {
		d := disk(t, n, final(4, 9, 1))
		for _, m := range misfits(n) {
			hides(t, d, m[0], m[1], api.ErrArg)
		}
		hides(t, nil, 0, 1, api.ErrArg)
		hides(t, nil, 0, 0, api.ErrArg)
		for from := 0; from < min(n, 9); from++ {
			for k := 1; from+k <= min(n, 9); k++ {
				opens(t, d, from, k)
				begins(t, d, from, k, 0)
			}
		}
		opens(t, d, 0, n)
		opens(t, d, n-1, 1)
	}
}

// What may not be asked for is told ahead of what the disk tells.
func TestP92Down(t *testing.T) {
	d := disk(t, 4, final(4, 9, 1))
	d.Stop(0, 0)
	if err := d.Write(3, make([]byte, 128)); err != api.ErrDown {
		t.Fatal(err)
	}
	for _, m := range misfits(4) {
		hides(t, d, m[0], m[1], api.ErrArg)
	}
	for from := range 4 {
		for n := 1; from+n <= 4; n++ {
			hides(t, d, from, n, api.ErrDown)
		}
	}
	d.Restart()
	has(t, opens(t, d, 0, 4), state{[][]byte{full(9, 1)}, 4, 5, 3})
}

// Neither writes anything.
func TestP92WritesNothing(t *testing.T) {
	d := disk(t, 5, inner(3, 1), final(4, 60, 2), final(9, 1, 3), inner(10, 4), ends(3, 99))
	was := all(t, d)
	d.Stop(0, 0)
	opens(t, d, 0, 5)
	begins(t, d, 0, 5, 7)
	begins(t, d, 1, 4, top)
	if d.Down() || !same(all(t, d), was) {
		t.Error("a log that is opened or begun writes")
	}
}

func TestP92OpenOfNoughts(t *testing.T) {
	for _, n := range []int{1, 2, 30, 65536} {
		d := disk(t, n)
		has(t, opens(t, d, 0, n), state{nil, 0, 1, n})
		has(t, begins(t, d, 0, n, 0), state{nil, 0, 1, n})
		has(t, opens(t, d, n-1, 1), state{nil, 0, 1, 1})
	}
}

// rows are blocks, and what a log of them tells.
var rows = []struct {
	what  string
	list  [][]byte
	state state
}{
	{"one record of one block", [][]byte{final(1, 5, 1)}, state{[][]byte{full(5, 1)}, 1, 2, 0}},
	{"one without bytes", [][]byte{final(3, 0, 1), ends(0, 0)}, state{[][]byte{nil}, 3, 4, 1}},
	{"one of a full block", [][]byte{final(3, 110, 1)}, state{[][]byte{full(110, 1)}, 3, 4, 0}},
	{"one of three blocks", row(8, full(250, 7)), state{[][]byte{full(250, 7)}, 8, 11, 0}},
	{"one whose last block holds none", [][]byte{inner(8, 7), final(9, 0, 7)}, state{[][]byte{full(110, 7)}, 8, 10, 0}},
	{"two, one behind the other", [][]byte{final(5, 3, 1), final(6, 4, 2)}, state{[][]byte{full(3, 1), full(4, 2)}, 5, 7, 0}},
	{"two, with numbers between", [][]byte{final(5, 3, 1), final(900, 4, 2)}, state{[][]byte{full(3, 1), full(4, 2)}, 5, 901, 0}},
	{"two of one number", [][]byte{final(5, 3, 1), final(5, 4, 2)}, state{[][]byte{full(3, 1)}, 5, 6, 1}},
	{"the other's number is lower", [][]byte{final(5, 3, 1), final(4, 4, 2)}, state{[][]byte{full(3, 1)}, 5, 6, 1}},
	{"a block misses within a record", [][]byte{inner(5, 1), final(7, 4, 2)}, state{nil, 0, 8, 2}},
	{"one number within a record", [][]byte{inner(5, 1), final(5, 4, 2)}, state{nil, 0, 6, 2}},
	{"a lower one within a record", [][]byte{inner(5, 1), final(4, 4, 2)}, state{nil, 0, 6, 2}},
	{"the record's end isn't there", [][]byte{inner(5, 1), inner(6, 2)}, state{nil, 0, 7, 2}},
	{"the other's end isn't there", [][]byte{final(5, 3, 1), inner(6, 1), inner(7, 2)}, state{[][]byte{full(3, 1)}, 5, 8, 2}},
	{"the front isn't whole", [][]byte{ends(0, 0), final(5, 4, 2)}, state{nil, 0, 6, 2}},
	{"the middle isn't whole", [][]byte{final(5, 4, 2), ends(6, 7), final(7, 4, 3)}, state{[][]byte{full(4, 2)}, 5, 8, 2}},
	{"it isn't whole within a record", [][]byte{final(2, 4, 2), inner(3, 1), ends(4, 4), final(4, 4, 3)}, state{[][]byte{full(4, 2)}, 2, 5, 3}},
	{"a block that isn't whole has the greatest number first", [][]byte{final(5, 4, 2), ends(60, 7)}, state{[][]byte{full(4, 2)}, 5, 61, 1}},
	{"and last", [][]byte{final(5, 4, 2), ends(6, 70)}, state{[][]byte{full(4, 2)}, 5, 71, 1}},
	{"a whole block that counts for nothing has it", [][]byte{final(5, 4, 2), ends(6, 7), final(80, 4, 3), ends(1, 1)}, state{[][]byte{full(4, 2)}, 5, 81, 3}},
	{"the front has it", [][]byte{final(90, 4, 2), final(3, 4, 3)}, state{[][]byte{full(4, 2)}, 90, 91, 1}},
	{"the greatest but one", [][]byte{final(top-1, 4, 2), ends(1, 1)}, state{[][]byte{full(4, 2)}, top - 1, top, 1}},
	{"the greatest", [][]byte{final(top, 4, 2), ends(1, 1)}, state{[][]byte{full(4, 2)}, top, 0, 1}},
	{"the greatest of one that isn't whole, first", [][]byte{final(1, 4, 2), ends(top, 1)}, state{[][]byte{full(4, 2)}, 1, 0, 1}},
	{"the greatest of one that isn't whole, last", [][]byte{final(1, 4, 2), ends(1, top)}, state{[][]byte{full(4, 2)}, 1, 0, 1}},
	{"up to the greatest", row(top-2, full(250, 7)), state{[][]byte{full(250, 7)}, top - 2, 0, 0}},
	{"beyond the greatest", [][]byte{inner(top, 1), block(0, nil, 1)}, state{nil, 0, 0, 2}},
	{"round the greatest", [][]byte{inner(top, 1), final(1, 4, 2)}, state{nil, 0, 0, 2}},
	{"a last one that is round the greatest", [][]byte{final(top, 3, 1), final(1, 4, 2)}, state{[][]byte{full(3, 1)}, top, 0, 1}},
}

func TestP92OpenTakes(t *testing.T) {
	for _, r := range rows {
		t.Run(r.what, func(t *testing.T) {
			has(t, opens(t, disk(t, len(r.list), r.list...), 0, len(r.list)), r.state)
			if want := told(r.list); !same(want.records, r.state.records) || want.first != r.state.first || want.next != r.state.next || want.free != r.state.free {
				t.Error("the test's own telling says otherwise")
			}
		})
	}
}

// What stands beside the log's blocks counts for nothing, at either side.
func TestP92OpenOfAPart(t *testing.T) {
	for _, r := range rows {
		for _, before := range []int{1, 3} {
			d := disk(t, before+len(r.list)+2)
			for i := range d.Len() {
				lays(t, d, i, final(uint64(1<<40+i), 20, i))
			}
			for i, b := range r.list {
				lays(t, d, before+i, b)
			}
			has(t, opens(t, d, before, len(r.list)), r.state)
		}
	}
	d := disk(t, 4, final(5, 1, 1), final(6, 2, 2), final(7, 3, 3), final(8, 4, 4))
	has(t, opens(t, d, 1, 2), state{[][]byte{full(2, 2), full(3, 3)}, 6, 8, 0})
	has(t, opens(t, d, 3, 1), state{[][]byte{full(4, 4)}, 8, 9, 0})
	has(t, begins(t, d, 1, 2, 0), state{nil, 0, 8, 2})
}

func TestP92OpenOfAnyBlocks(t *testing.T) {
	r := rand.New(rand.NewSource(92))
	for range 4000 {
		list := someBlocks(r)
		d := disk(t, len(list), list...)
		has(t, opens(t, d, 0, len(list)), told(list))
		from := r.Intn(len(list))
		has(t, opens(t, d, from, len(list)-from), told(list[from:]))
		if t.Failed() {
			t.Fatal(list)
		}
	}
}

// someBlocks are a few, most of which follow one upon the other.
func someBlocks(r *rand.Rand) [][]byte {
	var list [][]byte
	k := uint64(1 + r.Intn(300))
	if r.Intn(6) == 0 {
		k = top - uint64(r.Intn(8))
	}
	for i := range 1 + r.Intn(9) {
		b := inner(k, i)
		if r.Intn(2) == 0 {
			b = final(k, r.Intn(111), i)
		}
		if r.Intn(8) == 0 {
			b[r.Intn(128)] ^= 1 << r.Intn(8)
		}
		if r.Intn(12) == 0 {
			b = make([]byte, 128)
		}
		list = append(list, b)
		if r.Intn(7) != 0 {
			k++
		} else {
			k += uint64(r.Intn(5)) - 2
		}
	}
	return list
}

func TestP92BeginHasNone(t *testing.T) {
	for _, r := range rows {
		d := disk(t, len(r.list), r.list...)
		n := len(r.list)
		for _, least := range append(edges, 0, r.state.next-1, r.state.next, r.state.next+1) {
			want := r.state.next
			if want != 0 && least > want {
				want = least
			}
			has(t, begins(t, d, 0, n, least), state{nil, 0, want, n})
		}
	}
}

// What is opened anew behind Begin is what stands there, till something is added.
func TestP92BeginThenOpen(t *testing.T) {
	d := disk(t, 4, final(5, 3, 1), final(6, 4, 2), final(7, 5, 3))
	l := begins(t, d, 0, 4, 0)
	has(t, opens(t, d, 0, 4), state{[][]byte{full(3, 1), full(4, 2), full(5, 3)}, 5, 8, 1})
	adds(t, l, full(9, 9))
	has(t, l, state{[][]byte{full(9, 9)}, 8, 9, 3})
	has(t, opens(t, d, 0, 4), state{[][]byte{full(9, 9)}, 8, 9, 3})
}

// --- P9.3: Records, First, Next, Free, Add

func TestP93AddWrites(t *testing.T) {
	for _, s := range sizes {
		for _, least := range []uint64{0, 1, 2, 256, 65535, 1 << 32, top - 100} {
			d := disk(t, 20)
			was := full(128, 3)
			for i := range 20 {
				if i < 4 || i >= 4+12 {
					lays(t, d, i, was)
				}
			}
			l := begins(t, d, 4, 12, least)
			k := max(least, 1)
			has(t, l, state{nil, 0, k, 12})
			b := full(s.bytes, s.bytes)
			adds(t, l, b)
			has(t, l, state{[][]byte{b}, k, k + uint64(s.blocks), 12 - s.blocks})
			got := all(t, d)
			if !same(got[4:4+s.blocks], row(k, b)) {
				t.Error(s, least, "other blocks are written")
			}
			for i, b := range got {
				if i >= 4 && i < 4+s.blocks {
					continue
				}
				if (i < 4 || i >= 16) && !bytes.Equal(b, was) || i >= 4 && i < 16 && !bytes.Equal(b, make([]byte, 128)) {
					t.Error(s, least, "block", i, "is another")
				}
			}
			has(t, opens(t, d, 4, 12), state{[][]byte{b}, k, k + uint64(s.blocks), 12 - s.blocks})
		}
	}
}

// Its blocks are written from the first one on: how far it came is to be seen.
func TestP93AddInOrder(t *testing.T) {
	b := full(500, 1)
	want := row(1, b)
	for after := range len(want) {
		for _, torn := range []int{0, 1, 9, 64, 127, 128} {
			d := disk(t, 8)
			l := opens(t, d, 0, 8)
			d.Stop(after, torn)
			refused(t, l, b, api.ErrDown)
			has(t, l, state{nil, 0, 1, 8})
			d.Restart()
			got := all(t, d)
			if !same(got[:after], want[:after]) || !bytes.Equal(got[after][:torn], want[after][:torn]) || !bytes.Equal(got[after][torn:], make([]byte, 128-torn)) {
				t.Error(after, torn, "other blocks are written")
			}
			for _, b := range got[after+1:] {
				if !bytes.Equal(b, make([]byte, 128)) {
					t.Error(after, torn, "more is written")
				}
			}
		}
	}
}

func TestP93AddMany(t *testing.T) {
	d := disk(t, 60)
	l := opens(t, d, 0, 60)
	var want [][]byte
	var laid [][]byte
	for i := range 12 {
		b := full(sizes[i].bytes, i)
		laid = append(laid, row(uint64(len(laid)+1), b)...)
		want = append(want, b)
		adds(t, l, b)
		has(t, l, state{want, 1, uint64(len(laid) + 1), 60 - len(laid)})
		has(t, opens(t, d, 0, 60), state{want, 1, uint64(len(laid) + 1), 60 - len(laid)})
	}
	if !same(all(t, d)[:len(laid)], laid) {
		t.Error("other blocks are written")
	}
}

// One that is opened goes on behind its records, whatever stands there.
func TestP93AddToOpened(t *testing.T) {
	for _, r := range rows {
		n := len(r.list) + 3
		d := disk(t, n, r.list...)
		l := opens(t, d, 0, n)
		was := r.state
		was.free += 3
		has(t, l, was)
		b := full(150, 50)
		if was.next == 0 || was.next > top-2 {
			refused(t, l, b, api.ErrWorn)
			has(t, l, was)
			continue
		}
		adds(t, l, b)
		now := state{with(was.records, b), was.first, was.next + 2, was.free - 2}
		if now.first == 0 {
			now.first = was.next
		}
		has(t, l, now)
		has(t, opens(t, d, 0, n), now)
		if used := n - was.free; !same(all(t, d)[used:used+2], row(was.next, b)) {
			t.Error(r.what, "other blocks are written")
		}
	}
}

func TestP93AddSpace(t *testing.T) {
	for n := 1; n <= 6; n++ {
		for used := 0; used <= n; used++ {
			d := disk(t, n)
			l := opens(t, d, 0, n)
			var want [][]byte
			for i := range used {
				want = append(want, full(i, i))
				adds(t, l, full(i, i))
			}
			now := state{want, uint64(min(used, 1)), uint64(used + 1), n - used}
			was := all(t, d)
			for over := 1; over <= 3; over++ {
				// The least that has so many blocks more than are free.
				refused(t, l, full(max((n-used+over-1)*110+1, 0), 5), api.ErrSpace)
			}
			if used == n {
				refused(t, l, nil, api.ErrSpace)
				refused(t, l, []byte{}, api.ErrSpace)
			}
			has(t, l, now)
			if !same(all(t, d), was) {
				t.Error(n, used, "what is refused writes")
			}
			if used == n {
				continue
			}
			// It doesn't stay: what has room is added, up to the last byte.
			b := full((n-used)*110, 6)
			adds(t, l, b)
			has(t, l, state{with(want, b), 1, uint64(n + 1), 0})
			has(t, opens(t, d, 0, n), state{with(want, b), 1, uint64(n + 1), 0})
		}
	}
}

func TestP93AddWorn(t *testing.T) {
	for _, c := range []struct {
		next   uint64
		blocks int
		err    api.Errno
	}{
		{top - 1, 1, api.OK}, {top - 1, 2, api.ErrWorn}, {top, 1, api.ErrWorn}, {top, 2, api.ErrWorn}, {top - 2, 2, api.OK}, {top - 2, 3, api.ErrWorn}, {top - 3, 3, api.OK}, {top - 3, 4, api.ErrWorn},
		{top - 4, 4, api.OK}, {top - 4, 5, api.ErrWorn},
	} {
		d := disk(t, 5)
		l := begins(t, d, 0, 5, c.next)
		b := full(c.blocks*110, 4)
		if err := l.Add(b); err != c.err {
			t.Error(c, err)
		}
		if c.err != api.OK {
			has(t, l, state{nil, 0, c.next, 5})
			if !same(all(t, d), all(t, disk(t, 5))) {
				t.Error(c, "what is refused writes")
			}
			continue
		}
		has(t, l, state{[][]byte{b}, c.next, top, 5 - c.blocks})
		refused(t, l, nil, api.ErrWorn)
		refused(t, l, full(110*5, 1), api.ErrSpace)
		has(t, opens(t, d, 0, 5), state{[][]byte{b}, c.next, top, 5 - c.blocks})
	}
}

// It doesn't stay: of fewer blocks a number isn't above the end.
func TestP93AddWornDoesNotStay(t *testing.T) {
	d := disk(t, 9)
	l := begins(t, d, 0, 9, top-2)
	refused(t, l, full(330, 1), api.ErrWorn)
	refused(t, l, full(221, 1), api.ErrWorn)
	adds(t, l, full(5, 2))
	refused(t, l, full(111, 1), api.ErrWorn)
	adds(t, l, full(110, 3))
	refused(t, l, nil, api.ErrWorn)
	has(t, l, state{[][]byte{full(5, 2), full(110, 3)}, top - 2, top, 7})
}

// Where there is no number any more, there isn't, whatever is least.
func TestP93AddWornOfZero(t *testing.T) {
	for _, list := range [][][]byte{{final(top, 3, 1)}, {ends(top, 1)}, {ends(1, top)}, {ends(0, 0), ends(0, 0), inner(top, 2)}} {
		d := disk(t, 6, list...)
		for _, l := range []*wal.Log{opens(t, d, 0, 6), begins(t, d, 0, 6, 0), begins(t, d, 0, 6, 12), begins(t, d, 0, 6, top)} {
			was := state{l.Records(), l.First(), 0, l.Free()}
			refused(t, l, nil, api.ErrWorn)
			refused(t, l, full(200, 1), api.ErrWorn)
			refused(t, l, full(661, 1), api.ErrSpace) // no room comes ahead of no number
			has(t, l, was)
		}
	}
}

// The disk's error stays, ahead of all others, also when the disk is up again; nothing is written.
func TestP93AddErrorStays(t *testing.T) {
	for after := range 3 {
		for _, torn := range []int{0, 40, 128} {
			d := disk(t, 6)
			l := opens(t, d, 0, 6)
			adds(t, l, full(30, 1))
			was := state{[][]byte{full(30, 1)}, 1, 2, 5}
			d.Stop(after, torn)
			refused(t, l, full(300, 2), api.ErrDown)
			has(t, l, was)
			d.Restart()
			bytes := all(t, d)
			for range 2 {
				refused(t, l, nil, api.ErrDown)
				refused(t, l, full(10, 3), api.ErrDown)
				refused(t, l, full(5000, 3), api.ErrDown) // ahead of no room, too
				has(t, l, was)
			}
			if !same(all(t, d), bytes) {
				t.Error(after, torn, "it writes behind an error")
			}
		}
	}
}

func TestP93AddErrorStaysAheadOfWorn(t *testing.T) {
	d := disk(t, 6)
	l := begins(t, d, 0, 6, top-1)
	d.Stop(0, 0)
	refused(t, l, full(111, 1), api.ErrWorn)
	refused(t, l, nil, api.ErrDown)
	refused(t, l, full(111, 1), api.ErrDown)
	d.Restart()
	refused(t, l, full(111, 1), api.ErrDown)
	has(t, l, state{nil, 0, top - 1, 6})
}

// While a disk is down, a log tells what it has; what may not be added isn't a write.
func TestP93OfDown(t *testing.T) {
	d := disk(t, 3)
	l := opens(t, d, 0, 3)
	adds(t, l, full(50, 1))
	d.Stop(0, 0)
	if err := d.Write(2, make([]byte, 128)); err != api.ErrDown {
		t.Fatal(err)
	}
	has(t, l, state{[][]byte{full(50, 1)}, 1, 2, 2})
	refused(t, l, full(221, 1), api.ErrSpace)
	d.Restart()
	adds(t, l, full(220, 2))
	has(t, l, state{[][]byte{full(50, 1), full(220, 2)}, 1, 4, 0})
}

func TestP93OfNil(t *testing.T) {
	var l *wal.Log
	has(t, l, state{})
	for _, b := range [][]byte{nil, {}, full(1, 1), full(5000, 1)} {
		refused(t, l, b, api.ErrArg)
	}
}

// Two logs beside each other on one disk don't touch each other.
func TestP93TwoLogs(t *testing.T) {
	d := disk(t, 12)
	a, b := opens(t, d, 0, 6), opens(t, d, 6, 6)
	adds(t, a, full(200, 1))
	adds(t, b, full(20, 2))
	adds(t, a, full(330, 3))
	adds(t, b, full(111, 4))
	for range 2 {
		has(t, a, state{[][]byte{full(200, 1), full(330, 3)}, 1, 6, 1})
		has(t, b, state{[][]byte{full(20, 2), full(111, 4)}, 1, 4, 3})
		a, b = opens(t, d, 0, 6), opens(t, d, 6, 6)
	}
}

func TestP93AnyOrder(t *testing.T) {
	r := rand.New(rand.NewSource(93))
	for range 300 {
		n := 1 + r.Intn(30)
		d := disk(t, n+2)
		l := opens(t, d, 1, n)
		now := state{nil, 0, 1, n}
		for range 40 {
			switch r.Intn(8) {
			case 0:
				l = opens(t, d, 1, n)
				now = told(all(t, d)[1 : 1+n])
			case 1:
				least := uint64(r.Intn(2000))
				l = begins(t, d, 1, n, least)
				now = state{nil, 0, max(told(all(t, d)[1:1+n]).next, least), n}
			default:
				now = addsAny(t, r, l, now)
			}
			has(t, l, now)
		}
		if t.Failed() {
			t.FailNow()
		}
	}
}

// addsAny adds a record of any length, and is what the log tells then.
func addsAny(t *testing.T, r *rand.Rand, l *wal.Log, now state) state {
	t.Helper()
	b := full(r.Intn(600), r.Intn(100))
	k := len(row(1, b))
	if k > now.free {
		refused(t, l, b, api.ErrSpace)
		return now
	}
	adds(t, l, b)
	if now.first == 0 {
		now.first = now.next
	}
	return state{with(now.records, b), now.first, now.next + uint64(k), now.free - k}
}

// --- P9.4: what follows

// Each write of each record is torn at each byte; numbers are such that one more changes more than a byte.
func TestP94TornAnywhere(t *testing.T) {
	for _, least := range []uint64{1, 254, 255, 256, 510, 65530} {
		for after := range 4 {
			for torn := range 129 {
				d := disk(t, 8)
				l := begins(t, d, 0, 8, least)
				adds(t, l, full(130, 1))
				adds(t, l, full(3, 2))
				d.Stop(after, torn)
				had := [][]byte{full(130, 1), full(3, 2)}
				refused(t, l, full(400, 3), api.ErrDown)
				d.Restart()
				isOneOf(t, opens(t, d, 0, 8), had, with(had, full(400, 3)))
			}
		}
	}
}

// isOneOf fails unless a log has just the one row of records, or the other one.
func isOneOf(t *testing.T, l *wal.Log, had, more [][]byte) {
	t.Helper()
	if got := l.Records(); !same(got, had) && !same(got, more) {
		t.Errorf("%d records, and neither %d nor %d, or other bytes", len(got), len(had), len(more))
	}
}

// A disk stops again and again; each time its log is opened anew, and goes on.
func TestP94TornAgainAndAgain(t *testing.T) {
	r := rand.New(rand.NewSource(94))
	for range 400 {
		n := 8 + r.Intn(25)
		d := disk(t, n)
		l := opens(t, d, 0, n)
		if r.Intn(2) == 0 {
			l = begins(t, d, 0, n, uint64(200+r.Intn(60)))
		}
		had := [][]byte{}
		for range 40 {
			b := full(r.Intn(450), r.Intn(100))
			d.Stop(r.Intn(7)-1, r.Intn(129))
			switch err := l.Add(b); err {
			case api.OK:
				had = with(had, b)
			case api.ErrDown:
				d.Restart()
				l = opens(t, d, 0, n)
				isOneOf(t, l, had, with(had, b))
				had = l.Records()
			case api.ErrSpace:
			default:
				t.Fatal(err)
			}
			d.Restart()
			if !same(opens(t, d, 0, n).Records(), had) {
				t.Fatal("a log that is opened anew has other records")
			}
		}
		if t.Failed() {
			t.FailNow()
		}
	}
}

// What a torn write left behind isn't a part of a record that is added later, at no length of the later one.
func TestP94LeftoversAreNone(t *testing.T) {
	for after := range 5 {
		for _, torn := range []int{0, 1, 7, 8, 9, 10, 60, 119, 120, 121, 127, 128} {
			for _, s := range sizes[:12] {
				d := disk(t, 12)
				l := opens(t, d, 0, 12)
				adds(t, l, full(10, 1))
				d.Stop(after, torn)
				refused(t, l, full(500, 2), api.ErrDown)
				d.Restart()
				l = opens(t, d, 0, 12)
				had := l.Records()
				isOneOf(t, l, [][]byte{full(10, 1)}, [][]byte{full(10, 1), full(500, 2)})
				adds(t, l, full(s.bytes, 3))
				for range 2 {
					if !same(l.Records(), with(had, full(s.bytes, 3))) {
						t.Error(after, torn, s, "other records")
					}
					l = opens(t, d, 0, 12)
				}
			}
		}
	}
}

// --- What is handed in stays, and what is told is in memory of its own

func TestStays(t *testing.T) {
	for _, s := range sizes {
		d := disk(t, 12)
		l := opens(t, d, 0, 12)
		room := append(full(s.bytes, 1), 9, 9, 9)
		b := room[:s.bytes]
		adds(t, l, b)
		refused(t, l, full(5000, 1), api.ErrSpace)
		if !bytes.Equal(room, append(full(s.bytes, 1), 9, 9, 9)) {
			t.Error(s, "what is added is changed")
		}
	}
	for _, b := range [][]byte{final(4, 60, 1), inner(4, 1), ends(4, 5), full(128, 1), full(9, 1)} {
		was := bytes.Clone(b)
		wal.Whole(b)
		if !bytes.Equal(b, was) {
			t.Error("Whole changes what it is asked of")
		}
	}
}

func TestNotKept(t *testing.T) {
	for _, s := range sizes {
		d := disk(t, 12)
		l := opens(t, d, 0, 12)
		b := full(s.bytes, 1)
		adds(t, l, b)
		clear(b)
		want := state{[][]byte{full(s.bytes, 1)}, 1, uint64(s.blocks + 1), 12 - s.blocks}
		has(t, l, want)
		has(t, opens(t, d, 0, 12), want)
	}
}

func TestRecordsInNewMemory(t *testing.T) {
	d := disk(t, 12)
	l := opens(t, d, 0, 12)
	want := state{[][]byte{full(200, 1), full(60, 2), nil, full(110, 3)}, 1, 6, 7}
	for _, b := range want.records {
		adds(t, l, b)
	}
	for range 2 {
		got := l.Records()
		other := l.Records()
		for i, b := range got {
			clear(b)
			_ = append(b, 77, 77)
			_ = append(b[:len(b)/2], 78, 78)
			got[i] = nil
		}
		_ = append(got, full(1, 1))
		_ = append(got[:1], full(1, 1))
		if !same(other, want.records) {
			t.Error("two answers share memory")
		}
		has(t, l, want)
		has(t, opens(t, d, 0, 12), want)
		l = opens(t, d, 0, 12)
	}
}

// What was told earlier stays as it was, whatever is added then.
func TestRecordsStayAsTheyWere(t *testing.T) {
	d := disk(t, 12)
	l := opens(t, d, 0, 12)
	adds(t, l, full(50, 1))
	was := l.Records()
	adds(t, l, full(60, 2))
	for i := range 12 {
		lays(t, d, i, full(128, i))
	}
	if !same(was, [][]byte{full(50, 1)}) {
		t.Error("an answer changes with the log")
	}
	has(t, l, state{[][]byte{full(50, 1), full(60, 2)}, 1, 3, 10})
}

// The same calls have the same answers, whatever other logs do.
func TestNoStateOfItsOwn(t *testing.T) {
	one := func() ([][]byte, uint64, uint64, int) {
		d := disk(t, 9)
		l := begins(t, d, 2, 6, 30)
		adds(t, l, full(120, 1))
		refused(t, l, full(600, 1), api.ErrSpace)
		adds(t, l, full(1, 2))
		d.Stop(1, 3)
		refused(t, l, full(220, 3), api.ErrDown)
		d.Restart()
		return append(l.Records(), all(t, d)...), l.First(), l.Next(), l.Free()
	}
	a, first, next, free := one()
	for range 3 {
		b, k, m, n := one()
		if !same(a, b) || k != first || m != next || n != free {
			t.Error("the same calls have other answers")
		}
	}
}
