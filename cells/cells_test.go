package cells_test

import (
	"bytes"
	"encoding/binary"
	"maps"
	"math"
	"math/rand"
	"slices"
	"strconv"
	"strings"
	"testing"

	"bailee/api"
	"bailee/blocks"
	"bailee/cells"
	"bailee/wal"
)

// top is the greatest number of all.
const top = math.MaxUint64

// names are a store's, with their bytes.
type names map[string]string

// set gives a name bytes.
func set(key, value string) cells.Change { return cells.Change{Key: key, Value: []byte(value)} }

// gone takes a name away.
func gone(key string) cells.Change { return cells.Change{Key: key, Gone: true} }

// text are so many bytes, none of them 0, unlike those of other seeds.
func text(n, seed int) string {
	b := make([]byte, n)
	for i := range b {
		b[i] = byte(1 + (i*7+seed*31)%251)
	}
	return string(b)
}

// uint is a number as codec's words tell it.
func uint(x int) []byte { return binary.AppendUvarint(nil, uint64(x)) }

// row is how many bytes there are, and them.
func row(s string) []byte { return append(uint(len(s)), s...) }

// of is a record put together from parts: numbers, and texts with how many bytes they have.
func of(parts ...any) []byte {
	var b []byte
	for _, p := range parts {
		switch x := p.(type) {
		case int:
			b = append(b, uint(x)...)
		case string:
			b = append(b, row(x)...)
		case []byte:
			b = append(b, x...)
		}
	}
	return b
}

// allOf is the record of all of names, worked out from the words.
func allOf(n names) []byte {
	keys := make([]string, 0, len(n))
	for k := range n {
		keys = append(keys, k)
	}
	slices.SortFunc(keys, func(a, b string) int { return bytes.Compare([]byte(a), []byte(b)) })
	b := of(1, len(n))
	for _, k := range keys {
		b = append(b, of(k, n[k])...)
	}
	return b
}

// changesOf is the record of changes, worked out from the words.
func changesOf(l ...cells.Change) []byte {
	b := of(2, len(l))
	for _, c := range l {
		if c.Gone {
			b = append(b, of(c.Key, 1)...)
		} else {
			b = append(b, of(c.Key, 0, string(c.Value))...)
		}
	}
	return b
}

// after is what names are behind changes.
func after(n names, l []cells.Change) names {
	n = maps.Clone(n)
	if n == nil {
		n = names{}
	}
	for _, c := range l {
		if c.Gone {
			delete(n, c.Key)
		} else {
			n[c.Key] = string(c.Value)
		}
	}
	return n
}

// parts are the blocks of a log's record, their numbers from k on.
func parts(k uint64, record []byte) [][]byte {
	var l [][]byte
	for last := byte(0); last == 0; k++ {
		n := min(len(record), 110)
		if n == len(record) {
			last = 1
		}
		b := binary.BigEndian.AppendUint64(nil, k)
		b = append(b, byte(n), last)
		b = append(b, record[:n]...)
		b = append(b, make([]byte, 110-n)...)
		l = append(l, binary.BigEndian.AppendUint64(b, k))
		record = record[n:]
	}
	return l
}

// ends is a block that isn't whole, with this number at its ends.
func ends(k uint64) []byte {
	b := bytes.Repeat([]byte{200}, 128)
	binary.BigEndian.PutUint64(b, k)
	binary.BigEndian.PutUint64(b[120:], k)
	return b
}

// disk is a new one of noughts.
func disk(t *testing.T, n int) *blocks.Disk {
	t.Helper()
	d, err := blocks.New(n)
	if err != api.OK {
		t.Fatal(n, err)
	}
	return d
}

// lay writes blocks from one on, which must be done.
func lay(t *testing.T, d *blocks.Disk, from int, l ...[]byte) {
	t.Helper()
	for i, b := range l {
		if err := d.Write(from+i, b); err != api.OK {
			t.Fatal("write of", from+i, err)
		}
	}
}

// logs lays records one behind the other, from a block on, their numbers from k on.
func logs(t *testing.T, d *blocks.Disk, from int, k uint64, records ...[]byte) {
	t.Helper()
	for _, r := range records {
		l := parts(k, r)
		lay(t, d, from, l...)
		from += len(l)
		k += uint64(len(l))
	}
}

// all are a disk's blocks.
func all(t *testing.T, d *blocks.Disk) [][]byte {
	t.Helper()
	l := make([][]byte, d.Len())
	for i := range l {
		b, err := d.Read(i)
		if err != api.OK {
			t.Fatal("read of", i, err)
		}
		l[i] = b
	}
	return l
}

// same tells whether two lists of rows are one.
func same(a, b [][]byte) bool { return slices.EqualFunc(a, b, bytes.Equal) }

// stops lets a disk be down.
func stops(t *testing.T, d *blocks.Disk) {
	t.Helper()
	d.Stop(0, 0)
	if err := d.Write(0, make([]byte, 128)); err != api.ErrDown {
		t.Fatal(err)
	}
}

// opens opens a store, which must be done, without a write.
func opens(t *testing.T, d *blocks.Disk) *cells.Store {
	t.Helper()
	was := all(t, d)
	s, err := cells.Open(d)
	if err != api.OK || s == nil {
		t.Fatal("open:", err)
	}
	if !same(all(t, d), was) {
		t.Error("Open writes")
	}
	return s
}

// hides fails unless Open tells no more than this error.
func hides(t *testing.T, d *blocks.Disk, want api.Errno) {
	t.Helper()
	if s, err := cells.Open(d); err != want || s != nil {
		t.Errorf("open: %v, %d and not %d", s != nil, err, want)
	}
}

// applies does changes, which must be done.
func applies(t *testing.T, s *cells.Store, l ...cells.Change) {
	t.Helper()
	if err := s.Apply(l); err != api.OK {
		t.Fatal("apply of", len(l), err)
	}
}

// refused does changes, which must be refused.
func refused(t *testing.T, s *cells.Store, want api.Errno, l ...cells.Change) {
	t.Helper()
	if err := s.Apply(l); err != want {
		t.Errorf("apply of %d: %d and not %d", len(l), err, want)
	}
}

// told is what a store tells.
func told(s *cells.Store) names {
	n := names{}
	for _, k := range s.Keys() {
		b, _ := s.Get(k)
		n[k] = string(b)
	}
	return n
}

// has fails unless a store tells this.
func has(t *testing.T, s *cells.Store, want names, turns int, err api.Errno) {
	t.Helper()
	keys := s.Keys()
	if !slices.IsSorted(keys) || len(keys) != len(want) {
		t.Errorf("keys %q and not those of %d names", keys, len(want))
	}
	if got := told(s); !maps.Equal(got, want) {
		t.Errorf("%d names and not %d, or other ones, or other bytes", len(got), len(want))
	}
	for k, v := range want {
		if b, ok := s.Get(k); !ok || string(b) != v {
			t.Errorf("%q: %d bytes, %v", k, len(b), ok)
		}
	}
	if s.Turns() != turns || s.Err() != err {
		t.Errorf("turns %d, error %d, and not %d, %d", s.Turns(), s.Err(), turns, err)
	}
}

// good are records of all that may be, and what they say.
func good() []struct {
	b    []byte
	says names
} {
	return []struct {
		b    []byte
		says names
	}{
		{[]byte{1, 0}, names{}},
		{[]byte{1, 1, 1, 'a', 0}, names{"a": ""}},
		{[]byte{1, 2, 1, 'a', 2, 'x', 'y', 2, 'a', 0, 1, 'z'}, names{"a": "xy", "a\x00": "z"}},
		{of(1, 3, "A", "1", "a", "2", "\xff\xfe", "3"), names{"A": "1", "a": "2", "\xff\xfe": "3"}},
		{of(1, 2, "ab", "", "b", ""), names{"ab": "", "b": ""}},
		{of(1, 1, "\x00", "\x00\x00"), names{"\x00": "\x00\x00"}},
		{of(1, 1, text(64, 1), "v"), names{text(64, 1): "v"}},
		{of(1, 1, "v", text(4096, 2)), names{"v": text(4096, 2)}},
	}
}

// bad are records that may not be a record of all.
func bad() [][]byte {
	l := [][]byte{
		{}, {0}, {1}, {2, 0}, {3, 0}, {0, 0}, {129, 0, 0}, {1, 128}, {1, 128, 0}, {1, 0, 0}, {1, 0, 1},
		{1, 1}, {1, 1, 1}, {1, 1, 1, 'a'}, {1, 1, 1, 'a', 1}, {1, 1, 1, 'a', 0, 0}, {1, 2, 1, 'a', 0}, {1, 0, 1, 'a', 0},
		{1, 1, 129, 0, 'a', 0}, {1, 1, 1, 'a', 128, 0}, {1, 129, 0, 1, 'a', 0},
		of(1, 1, "", "v"), of(1, 2, "", "v", "a", "v"), of(1, 2, "a", "v", "", "v"), of(1, 1, "", ""),
		of(1, 2, "b", "1", "a", "2"), of(1, 2, "a", "1", "a", "1"), of(1, 2, "ab", "1", "a", "2"), of(1, 2, "a", "1", "B", "2"), of(1, 2, "\xff", "1", "a", "2"),
		of(1, 3, "a", "1", "c", "2", "b", "3"), of(1, 3, "a", "1", "c", "2", "c", "2"), of(1, 3, "b", "", "a", "", "c", ""),
		of(1, 1, text(65, 1), "v"), of(1, 1, text(128, 1), "v"), of(1, 2, "\x00", "", text(65, 1), "v"),
		of(1, 1, "v", text(4097, 1)), of(1, 2, "a", text(4097, 1), "b", ""), of(1, 2, "a", "", "b", text(4097, 1)),
		of(1, 1, "a", 0, "v"), of(2, 1, "a", 0, "v"), of(2, 1, "a", 1),
		of(1, 1<<40, "a", "v"), of(1, []byte{255, 255, 255, 255, 255, 255, 255, 255, 255, 1}, "a", "v"), of(1, 1, "a", []byte{255, 255, 255, 255, 15}),
	}
	for _, g := range good() {
		l = append(l, append(bytes.Clone(g.b), 0), g.b[:len(g.b)-1])
	}
	return l
}

// goodChanges are records of changes that may be, and what they do.
func goodChanges() []struct {
	b    []byte
	does []cells.Change
} {
	return []struct {
		b    []byte
		does []cells.Change
	}{
		{[]byte{2, 0}, nil},
		{[]byte{2, 1, 1, 'a', 0, 2, 'x', 'y'}, []cells.Change{set("a", "xy")}},
		{[]byte{2, 1, 1, 'a', 1}, []cells.Change{gone("a")}},
		{[]byte{2, 2, 1, 'a', 1, 1, 'a', 0, 0}, []cells.Change{gone("a"), set("a", "")}},
		{[]byte{2, 2, 1, 'b', 0, 1, 'x', 1, 'b', 1}, []cells.Change{set("b", "x"), gone("b")}},
		{of(2, 3, "c", 0, "1", "b", 0, "2", "c", 0, "3"), []cells.Change{set("c", "1"), set("b", "2"), set("c", "3")}},
		{of(2, 2, text(64, 3), 0, text(4096, 4), text(64, 5), 1), []cells.Change{set(text(64, 3), text(4096, 4)), gone(text(64, 5))}},
		{of(2, 1, "\x00", 0, "\x00"), []cells.Change{set("\x00", "\x00")}},
	}
}

// badChanges are records that may not be a record of changes.
func badChanges() [][]byte {
	l := [][]byte{
		{}, {0}, {2}, {1, 0}, {3, 0}, {0, 0}, {130, 0, 0}, {2, 128}, {2, 128, 0}, {2, 0, 0},
		{2, 1}, {2, 1, 1}, {2, 1, 1, 'a'}, {2, 1, 1, 'a', 0}, {2, 1, 1, 'a', 0, 1}, {2, 1, 1, 'a', 2}, {2, 1, 1, 'a', 2, 0}, {2, 1, 1, 'a', 255, 0}, {2, 1, 1, 'a', 1, 0},
		{2, 2, 1, 'a', 1}, {2, 0, 1, 'a', 1}, {2, 1, 129, 0, 'a', 1}, {2, 1, 1, 'a', 0, 128, 0}, {2, 129, 0, 1, 'a', 1},
		of(2, 1, "", 1), of(2, 1, "", 0, "v"), of(2, 2, "a", 1, "", 1), of(2, 2, "", 1, "a", 1),
		of(2, 1, text(65, 1), 1), of(2, 1, text(65, 1), 0, ""), of(2, 1, text(200, 1), 1), of(2, 2, "a", 1, text(65, 1), 1),
		of(2, 1, "a", 0, text(4097, 1)), of(2, 2, "a", 0, text(4097, 1), "b", 1), of(2, 2, "b", 1, "a", 0, text(4097, 1)),
		of(2, 1, "a", "v"), of(1, 1, "a", "v"), of(2, 1<<40, "a", 1), of(2, []byte{255, 255, 255, 255, 255, 255, 255, 255, 255, 1}, "a", 1), of(2, 1, "a", 0, []byte{255, 255, 255, 255, 15}),
	}
	for _, g := range goodChanges() {
		l = append(l, append(bytes.Clone(g.b), 0), g.b[:len(g.b)-1])
	}
	return l
}

// --- P10.1: Open

func TestP101Args(t *testing.T) {
	hides(t, nil, api.ErrArg)
	hides(t, disk(t, 1), api.ErrArg)
	hides(t, new(blocks.Disk), api.ErrArg)
	d := disk(t, 1)
	logs(t, d, 0, 1, allOf(names{"a": "1"}))
	hides(t, d, api.ErrArg)
	stops(t, d)
	hides(t, d, api.ErrArg)
}

func TestP101Down(t *testing.T) {
	for _, n := range []int{2, 3, 20} {
		d := disk(t, n)
		logs(t, d, 0, 1, allOf(names{"a": "1"}))
		stops(t, d)
		hides(t, d, api.ErrDown)
		d.Restart()
		has(t, opens(t, d), names{"a": "1"}, 0, api.OK)
	}
}

func TestP101OpenOfNoughts(t *testing.T) {
	for _, n := range []int{2, 3, 4, 9, 100, 65536} {
		has(t, opens(t, disk(t, n)), nil, 0, api.OK)
	}
}

func TestP101RecordsThatMayBe(t *testing.T) {
	for i, g := range good() {
		if !bytes.Equal(g.b, allOf(g.says)) {
			t.Fatal(i, "the test's own telling says otherwise")
		}
		for at := range 2 {
			d := disk(t, 100)
			logs(t, d, at*50, 7, g.b)
			has(t, opens(t, d), g.says, 0, api.OK)
		}
	}
}

func TestP101RecordsThatMayNotBe(t *testing.T) {
	for i, b := range bad() {
		for at := range 2 {
			d := disk(t, 100)
			logs(t, d, at*50, 7, b)
			has(t, opens(t, d), nil, 0, api.OK)
			// What stands behind it counts for nothing, neither a record of all nor one that may not be.
			logs(t, d, at*50, 7, b, allOf(names{"a": "1"}), []byte{9})
			has(t, opens(t, d), nil, 0, api.OK)
			// The other half counts alone, though its numbers are lower.
			logs(t, d, (1-at)*50, 3, allOf(names{"b": "2"}), changesOf(set("c", "3")))
			has(t, opens(t, d), names{"b": "2", "c": "3"}, 0, api.OK)
			if t.Failed() {
				t.Fatal(i, at, b)
			}
		}
	}
}

func TestP101ChangesBehind(t *testing.T) {
	first := names{"a": "1", "b": "2", text(64, 5): "x"}
	for i, g := range goodChanges() {
		if !bytes.Equal(g.b, changesOf(g.does...)) {
			t.Fatal(i, "the test's own telling says otherwise")
		}
		for at := range 2 {
			d := disk(t, 120)
			logs(t, d, at*60, 7, allOf(first), g.b)
			has(t, opens(t, d), after(first, g.does), 0, api.OK)
			more := []cells.Change{gone("b"), set("a", "5")}
			logs(t, d, at*60, 7, allOf(first), g.b, changesOf(more...))
			has(t, opens(t, d), after(after(first, g.does), more), 0, api.OK)
			logs(t, d, at*60, 7, allOf(first), changesOf(more...), g.b)
			has(t, opens(t, d), after(after(first, more), g.does), 0, api.OK)
		}
	}
}

// They are done in order, the same name's too.
func TestP101ChangesInOrder(t *testing.T) {
	d := disk(t, 40)
	logs(t, d, 20, 1, allOf(nil), changesOf(set("a", "1")), changesOf(set("a", "2"), set("b", "3")), changesOf(gone("b"), set("a", "4"), gone("c")), changesOf(set("c", "5"), set("c", "6")))
	has(t, opens(t, d), names{"a": "4", "c": "6"}, 0, api.OK)
	logs(t, d, 20, 1, allOf(nil), changesOf(set("a", "2"), set("b", "3")), changesOf(gone("b"), set("a", "4"), gone("c")), changesOf(set("a", "1")), changesOf(set("c", "5"), gone("c")))
	has(t, opens(t, d), names{"a": "1"}, 0, api.OK)
}

func TestP101Broken(t *testing.T) {
	list := append(badChanges(), allOf(names{"b": "2"}), allOf(nil))
	for i, b := range list {
		for at := range 2 {
			d := disk(t, 120)
			logs(t, d, at*60, 7, allOf(names{"a": "1"}), b)
			hides(t, d, api.ErrBroken)
			logs(t, d, at*60, 7, allOf(names{"a": "1"}), b, changesOf(gone("a")))
			hides(t, d, api.ErrBroken)
			logs(t, d, at*60, 7, allOf(names{"a": "1"}), changesOf(gone("a")), b)
			hides(t, d, api.ErrBroken)
			// That of the lower First is whole, but the other one counts alone.
			logs(t, d, (1-at)*60, 6, allOf(names{"b": "2"}))
			hides(t, d, api.ErrBroken)
			// And the other way about.
			logs(t, d, (1-at)*60, 8, allOf(names{"b": "2"}))
			has(t, opens(t, d), names{"b": "2"}, 0, api.OK)
			if t.Failed() {
				t.Fatal(i, at, b)
			}
		}
	}
}

func TestP101GreaterFirst(t *testing.T) {
	for _, c := range []struct {
		first, second uint64
		want          string
	}{
		{1, 2, "second"}, {2, 1, "first"}, {1, 1, "first"}, {255, 256, "second"}, {256, 255, "first"}, {300, 300, "first"},
		{65535, 65536, "second"}, {1 << 63, 1<<63 - 1, "first"}, {1<<63 - 1, 1 << 63, "second"}, {top - 9, 3, "first"}, {3, top - 9, "second"}, {top - 9, top - 9, "first"},
	} {
		d := disk(t, 20)
		logs(t, d, 0, c.first, allOf(names{"first": ""}), changesOf(set("f", "")))
		logs(t, d, 10, c.second, allOf(names{"second": ""}), changesOf(set("s", "")))
		has(t, opens(t, d), names{c.want: "", c.want[:1]: ""}, 0, api.OK)
	}
	// It is the number of the first block, not that of the last one.
	d := disk(t, 20)
	logs(t, d, 0, 5, allOf(names{"first": ""}), changesOf(set("a", "")), changesOf(set("b", "")), changesOf(set("c", "")))
	logs(t, d, 10, 6, allOf(names{"second": ""}))
	has(t, opens(t, d), names{"second": ""}, 0, api.OK)
	lay(t, d, 4, ends(900))
	has(t, opens(t, d), names{"second": ""}, 0, api.OK)
}

// A half that doesn't count has no say, however great its First is.
func TestP101NoRecordAtTheFront(t *testing.T) {
	for at := range 2 {
		d := disk(t, 20)
		logs(t, d, at*10, 5, allOf(names{"a": "1"}))
		lay(t, d, (1-at)*10, ends(90))
		logs(t, d, (1-at)*10+1, 91, allOf(names{"b": "2"}))
		has(t, opens(t, d), names{"a": "1"}, 0, api.OK)
		lay(t, d, at*10, make([]byte, 128))
		has(t, opens(t, d), nil, 0, api.OK)
	}
}

// Of a disk with an odd number of blocks the last one is no half's.
func TestP101Halves(t *testing.T) {
	for _, n := range []int{2, 3, 4, 5, 8, 9, 16, 17} {
		h := n / 2
		d := disk(t, n)
		logs(t, d, 0, 3, allOf(names{"first": ""}))
		logs(t, d, h, 4, allOf(names{"second": ""}))
		if n%2 == 1 {
			logs(t, d, n-1, 9, allOf(names{"behind": ""}))
		}
		has(t, opens(t, d), names{"second": ""}, 0, api.OK)
		lay(t, d, h, ends(0))
		has(t, opens(t, d), names{"first": ""}, 0, api.OK)
		// What is in the first half only as far as the second one's blocks isn't a record of it.
		lay(t, d, 0, parts(3, allOf(names{"a": text(h*110, 1)}))[:h]...)
		lay(t, d, h, parts(3, allOf(names{"a": text(h*110, 1)}))[h])
		has(t, opens(t, d), nil, 0, api.OK)
	}
}

// If none counts, numbers go on behind all that stands in both halves.
func TestP101NoneCounts(t *testing.T) {
	for _, c := range []struct {
		first, second, next uint64
	}{
		{0, 0, 1}, {500, 0, 501}, {0, 500, 501}, {500, 700, 701}, {700, 500, 701}, {500, 500, 501}, {1, 0, 2}, {0, 1, 2},
		{top - 2, 5, top - 1}, {5, top - 2, top - 1},
	} {
		d := disk(t, 10)
		lay(t, d, 3, ends(c.first))
		lay(t, d, 8, ends(c.second))
		s := opens(t, d)
		has(t, s, nil, 0, api.OK)
		applies(t, s, set("a", "1"))
		has(t, s, names{"a": "1"}, 1, api.OK)
		want := all(t, disk(t, 10))
		want[3], want[8] = ends(c.first), ends(c.second)
		copy(want[5:], parts(c.next, allOf(names{"a": "1"})))
		if !same(all(t, d), want) {
			t.Error(c, "other blocks are written")
		}
		has(t, opens(t, d), names{"a": "1"}, 0, api.OK)
	}
}

// A first half that has records, none of which counts, has none when it is begun: the first changes are a turn.
func TestP101NoneCountsIsBegun(t *testing.T) {
	d := disk(t, 10)
	logs(t, d, 0, 40, []byte{9}, changesOf(set("x", "y")))
	s := opens(t, d)
	applies(t, s, set("a", "1"))
	has(t, s, names{"a": "1"}, 1, api.OK)
	if got := all(t, d)[5]; !bytes.Equal(got, parts(42, allOf(names{"a": "1"}))[0]) {
		t.Error("other blocks are written")
	}
	has(t, opens(t, d), names{"a": "1"}, 0, api.OK)
}

// A number at its end is told where something is written, not where the store is opened.
func TestP101NoneCountsWorn(t *testing.T) {
	// The second half has no number any more.
	d := disk(t, 10)
	lay(t, d, 9, ends(top))
	s := opens(t, d)
	refused(t, s, api.ErrSpace, set("a", text(600, 1)))
	has(t, s, nil, 0, api.OK)
	refused(t, s, api.ErrWorn, set("a", "1"))
	has(t, s, nil, 0, api.ErrWorn)
	// The first half has none: the second one goes on behind its own.
	d = disk(t, 10)
	lay(t, d, 4, ends(top))
	lay(t, d, 9, ends(6))
	s = opens(t, d)
	applies(t, s, set("a", "1"))
	has(t, s, names{"a": "1"}, 1, api.OK)
	if got := all(t, d)[5]; !bytes.Equal(got, parts(7, allOf(names{"a": "1"}))[0]) {
		t.Error("other blocks are written")
	}
}

// --- P10.2: Apply

// The first changes of a new disk are a record of all in the second half, those behind them are records of changes there.
func TestP102Writes(t *testing.T) {
	for _, n := range []int{20, 21} {
		d := disk(t, n)
		s := opens(t, d)
		want := all(t, d)
		applies(t, s, set("b", "2"), set("a", "1"))
		want[10] = append(append(append([]byte{0, 0, 0, 0, 0, 0, 0, 1, 10, 1}, 1, 2, 1, 'a', 1, '1', 1, 'b', 1, '2'), make([]byte, 100)...), 0, 0, 0, 0, 0, 0, 0, 1)
		if !same(all(t, d), want) {
			t.Error("other blocks are written")
		}
		has(t, s, names{"a": "1", "b": "2"}, 1, api.OK)
		applies(t, s, set("c", "33"), gone("a"), gone("x"))
		want[11] = append(append(append([]byte{0, 0, 0, 0, 0, 0, 0, 2, 14, 1}, 2, 3, 1, 'c', 0, 2, '3', '3', 1, 'a', 1, 1, 'x', 1), make([]byte, 96)...), 0, 0, 0, 0, 0, 0, 0, 2)
		if !same(all(t, d), want) {
			t.Error("other blocks are written")
		}
		has(t, s, names{"b": "2", "c": "33"}, 1, api.OK)
		applies(t, s, set("d", text(300, 1)))
		copy(want[12:], parts(3, changesOf(set("d", text(300, 1)))))
		if !same(all(t, d), want) {
			t.Error("other blocks are written")
		}
		has(t, opens(t, d), names{"b": "2", "c": "33", "d": text(300, 1)}, 0, api.OK)
	}
}

// Names and bytes may be just so long, and hold any bytes.
func TestP102Edges(t *testing.T) {
	d := disk(t, 1000)
	s := opens(t, d)
	now := names{}
	turns := 0
	for _, l := range [][]cells.Change{
		{set(text(64, 1), text(4096, 1))}, {set("x", "")}, {{Key: "y"}}, {{Key: "y", Value: []byte{}}}, {set("\x00", "\x00")}, {set("\xff\xc0", "\xff")}, {set("世", "界")},
		{gone(text(64, 1))}, {{Key: "y", Value: []byte{}, Gone: true}}, {gone("none")}, {set(text(63, 2), text(4095, 2)), gone("x"), set("x", text(4096, 3))},
		{set("n", "1"), set("n", "2"), gone("n"), set("n", "3")}, {set("m", "1"), gone("m")},
	} {
		applies(t, s, l...)
		turns = 1
		now = after(now, l)
		has(t, s, now, turns, api.OK)
		has(t, opens(t, d), now, 0, api.OK)
	}
}

func TestP102Args(t *testing.T) {
	wrong := []cells.Change{
		set("", "v"), set("", ""), {}, {Gone: true}, set(text(65, 1), "v"), gone(text(65, 1)), set(text(5000, 1), ""),
		set("a", text(4097, 1)), set("a", text(70000, 1)), {Key: "a", Value: []byte{0}, Gone: true}, {Key: "b", Value: []byte(text(4096, 1)), Gone: true}, {Key: "a", Value: []byte(text(4097, 1)), Gone: true},
	}
	for _, at := range []int{0, 1} {
		d := disk(t, 100)
		s := opens(t, d)
		now := names{}
		for range at {
			applies(t, s, set("a", "1"), set("b", "2"))
			now = names{"a": "1", "b": "2"}
		}
		was := all(t, d)
		for _, c := range wrong {
			refused(t, s, api.ErrArg, c)
			refused(t, s, api.ErrArg, c, set("x", "y"))
			refused(t, s, api.ErrArg, set("x", "y"), gone("a"), c)
			refused(t, s, api.ErrArg, set("x", "y"), c, gone("a"))
			// Also ahead of no room.
			refused(t, s, api.ErrArg, set("x", text(4096, 1)), set("y", text(4096, 1)), set("z", text(4096, 1)), c)
		}
		if !same(all(t, d), was) {
			t.Error("what is refused writes")
		}
		has(t, s, now, at, api.OK)
		applies(t, s, set("c", "3"))
		now["c"] = "3"
		has(t, s, now, 1, api.OK)
	}
}

func TestP102NoChanges(t *testing.T) {
	d := disk(t, 2)
	s := opens(t, d)
	noughts := all(t, d)
	d.Stop(0, 128)
	for range 3 {
		applies(t, s)
		if err := s.Apply([]cells.Change{}); err != api.OK {
			t.Error(err)
		}
	}
	has(t, s, nil, 0, api.OK)
	if d.Down() || !same(all(t, d), noughts) {
		t.Error("no changes write")
	}
	d.Restart()
	applies(t, s, set("a", "1"))
	was := all(t, d)
	applies(t, s)
	has(t, s, names{"a": "1"}, 1, api.OK)
	if !same(all(t, d), was) {
		t.Error("no changes write")
	}
	// Not even where the disk is down; but the error that stays is told.
	stops(t, d)
	applies(t, s)
	has(t, s, names{"a": "1"}, 1, api.OK)
	refused(t, s, api.ErrDown, set("a", "2"))
	refused(t, s, api.ErrDown)
	has(t, s, names{"a": "1"}, 1, api.ErrDown)
}

// Up to the last block, and its last byte, changes are added; one byte more is a turn.
func TestP102Room(t *testing.T) {
	for free := 1; free <= 5; free++ {
		for over := -2; over <= 2; over++ {
			d := disk(t, 2*(free+1))
			s := opens(t, d)
			applies(t, s, set("a", "1"))
			// Behind the number, how many there are, the name, no, and its length (two bytes from 128 on).
			head := 7
			if free == 1 {
				head = 6
			}
			n := free*110 - head + over
			l := []cells.Change{set("a", text(n, 2))}
			if got := len(changesOf(l...)); got != free*110+over {
				t.Fatal(free, over, got)
			}
			want := all(t, d)
			applies(t, s, l...)
			turns := 1
			if over <= 0 {
				copy(want[free+2:], parts(2, changesOf(l...)))
			} else {
				turns = 2
				copy(want, parts(2, allOf(names{"a": text(n, 2)})))
			}
			if !same(all(t, d), want) {
				t.Error(free, over, "other blocks are written")
			}
			has(t, s, names{"a": text(n, 2)}, turns, api.OK)
			has(t, opens(t, d), names{"a": text(n, 2)}, 0, api.OK)
		}
	}
}

// Halves take turns; the numbers go on behind those of both.
func TestP102Turns(t *testing.T) {
	d := disk(t, 4)
	s := opens(t, d)
	want := all(t, d)
	for i := range 40 {
		l := []cells.Change{set("a", text(20+i, i))}
		applies(t, s, l...)
		k := uint64(i + 1)
		switch i % 4 {
		case 0: // all anew in the second half
			want[2] = parts(k, allOf(after(nil, l)))[0]
		case 1:
			want[3] = parts(k, changesOf(l...))[0]
		case 2:
			want[0] = parts(k, allOf(after(nil, l)))[0]
		case 3:
			want[1] = parts(k, changesOf(l...))[0]
		}
		if !same(all(t, d), want) {
			t.Fatal(i, "other blocks are written")
		}
		has(t, s, after(nil, l), i/2+1, api.OK)
		has(t, opens(t, d), after(nil, l), 0, api.OK)
	}
}

// What is written anew is all, as it is behind the changes, in rising order, and nothing that was taken away.
func TestP102TurnIsOfAll(t *testing.T) {
	d := disk(t, 12)
	s := opens(t, d)
	applies(t, s, set("m", "1"), set("z", "2"), set("a", "3"))
	applies(t, s, set("b", text(300, 1)), gone("z"))
	now := names{"m": "1", "a": "3", "b": text(300, 1)}
	has(t, s, now, 1, api.OK)
	l := []cells.Change{gone("b"), set("\x01", "4"), set("aa", "5"), set("m", "6"), set("B", "7"), gone("a"), set("b", text(200, 2))}
	applies(t, s, l...)
	now = names{"\x01": "4", "B": "7", "aa": "5", "b": text(200, 2), "m": "6"}
	has(t, s, now, 2, api.OK)
	if got := all(t, d)[:3]; !same(got, parts(5, of(1, 5, "\x01", "4", "B", "7", "aa", "5", "b", text(200, 2), "m", "6"))) {
		t.Error("other blocks are written")
	}
	has(t, opens(t, d), now, 0, api.OK)
}

// Also a store that has no name any more is written anew, and counts.
func TestP102TurnOfNone(t *testing.T) {
	d := disk(t, 2)
	s := opens(t, d)
	applies(t, s, set("a", "1"))
	applies(t, s, gone("a"))
	has(t, s, nil, 2, api.OK)
	if got := all(t, d)[0]; !bytes.Equal(got, parts(2, []byte{1, 0})[0]) {
		t.Error("other blocks are written")
	}
	has(t, opens(t, d), nil, 0, api.OK)
	applies(t, s, gone("a"))
	has(t, s, nil, 3, api.OK)
}

// The number of a turn is behind this half's and behind all that stands in the other one.
func TestP102TurnNumbers(t *testing.T) {
	for _, c := range []struct{ this, other, next uint64 }{
		{5, 0, 6}, {5, 3, 6}, {5, 5, 6}, {5, 70, 71}, {5, 4, 6}, {256, 300, 301}, {256, 100, 257}, {top - 3, 5, top - 2}, {top - 2, 5, top - 1},
	} {
		for at := range 2 {
			d := disk(t, 6)
			logs(t, d, at*3, c.this-2, allOf(nil), changesOf(set("a", "1")), changesOf(set("b", "2")))
			lay(t, d, (1-at)*3+2, ends(c.other))
			s := opens(t, d)
			applies(t, s, set("c", "3"))
			if got := all(t, d)[(1-at)*3]; !bytes.Equal(got, parts(c.next, allOf(names{"a": "1", "b": "2", "c": "3"}))[0]) {
				t.Error(c, at, "other blocks are written")
			}
			has(t, s, names{"a": "1", "b": "2", "c": "3"}, 1, api.OK)
			has(t, opens(t, d), names{"a": "1", "b": "2", "c": "3"}, 0, api.OK)
		}
	}
}

// Where all has no room, nothing is changed, and that doesn't stay: what has room is done, in the same half.
func TestP102Space(t *testing.T) {
	d := disk(t, 6)
	s := opens(t, d)
	for range 2 {
		refused(t, s, api.ErrSpace, set("a", text(330-6+1, 1))) // a record of all of 331 bytes
		has(t, s, nil, 0, api.OK)
	}
	if !same(all(t, d), all(t, disk(t, 6))) {
		t.Error("what is refused writes")
	}
	applies(t, s, set("a", text(100, 1)))
	has(t, s, names{"a": text(100, 1)}, 1, api.OK)
	was := all(t, d)
	for range 3 {
		refused(t, s, api.ErrSpace, set("b", text(230, 1)))
		refused(t, s, api.ErrSpace, gone("a"), set("b", text(330, 1)), set("c", ""))
		has(t, s, names{"a": text(100, 1)}, 1, api.OK)
	}
	if !same(all(t, d), was) {
		t.Error("what is refused writes")
	}
	has(t, opens(t, d), names{"a": text(100, 1)}, 0, api.OK)
	// It goes on in the half that was the store's, behind what is there.
	applies(t, s, set("b", "2"))
	was[4] = parts(2, changesOf(set("b", "2")))[0]
	if !same(all(t, d), was) {
		t.Error("other blocks are written")
	}
	has(t, s, names{"a": text(100, 1), "b": "2"}, 1, api.OK)
	applies(t, s, gone("a"), set("b", text(300, 1)))
	has(t, s, names{"b": text(300, 1)}, 2, api.OK)
	has(t, opens(t, d), names{"b": text(300, 1)}, 0, api.OK)
}

// Of all that there is a half holds just so much, to the last byte.
func TestP102SpaceToTheLastByte(t *testing.T) {
	for h := 1; h <= 6; h++ {
		head := 6 // 1, 1, the name, and a length of two bytes
		if h == 1 {
			head = 5
		}
		d := disk(t, 2*h)
		s := opens(t, d)
		refused(t, s, api.ErrSpace, set("a", text(h*110-head+1, 1)))
		has(t, s, nil, 0, api.OK)
		for turn := range 3 {
			applies(t, s, set("a", text(h*110-head, turn)))
			has(t, s, names{"a": text(h*110-head, turn)}, turn+1, api.OK)
			refused(t, s, api.ErrSpace, set("a", text(h*110-head+1, 1)))
			refused(t, s, api.ErrSpace, set("b", ""))
			has(t, s, names{"a": text(h*110-head, turn)}, turn+1, api.OK)
			has(t, opens(t, d), names{"a": text(h*110-head, turn)}, 0, api.OK)
		}
	}
}

// The disk's error stays, ahead of all others, also when the disk is up again; nothing is changed, nothing more is written.
func TestP102ErrorStays(t *testing.T) {
	for _, c := range []struct {
		what string
		l    []cells.Change
	}{
		{"added", []cells.Change{set("a", "2"), gone("b"), set("c", text(200, 1))}},
		{"turned", []cells.Change{set("a", "2"), gone("b"), set("c", text(900, 1))}},
	} {
		for after := range 2 {
			for _, torn := range []int{0, 1, 60, 127, 128} {
				d := disk(t, 24)
				s := opens(t, d)
				applies(t, s, set("a", "1"), set("b", "2"))
				applies(t, s, set("d", text(400, 1)))
				now := names{"a": "1", "b": "2", "d": text(400, 1)}
				d.Stop(after, torn)
				refused(t, s, api.ErrDown, c.l...)
				has(t, s, now, 1, api.ErrDown)
				d.Restart()
				was := all(t, d)
				for range 2 {
					refused(t, s, api.ErrDown, set("a", "3"))
					refused(t, s, api.ErrDown)
					refused(t, s, api.ErrDown, set("", "3"))
					refused(t, s, api.ErrDown, set("a", text(4096, 3)))
					has(t, s, now, 1, api.ErrDown)
				}
				if !same(all(t, d), was) {
					t.Error(c.what, after, torn, "it writes behind an error")
				}
			}
		}
	}
}

// A disk that is down tells so also where the other half is begun, ahead of what is written.
func TestP102BeginErrorStays(t *testing.T) {
	d := disk(t, 8)
	s := opens(t, d)
	stops(t, d)
	refused(t, s, api.ErrArg, set("", "1"))
	has(t, s, nil, 0, api.OK)
	// Where it has room or not: the other half can't be read.
	refused(t, s, api.ErrDown, set("a", text(4096, 1)))
	has(t, s, nil, 0, api.ErrDown)
	d.Restart()
	refused(t, s, api.ErrDown, set("a", "1"))
	has(t, s, nil, 0, api.ErrDown)
	if !same(all(t, d), all(t, disk(t, 8))) {
		t.Error("it writes behind an error")
	}
	s = opens(t, d)
	applies(t, s, set("a", "1"))
	has(t, s, names{"a": "1"}, 1, api.OK)
}

func TestP102WornStays(t *testing.T) {
	// Where changes are added: there is room, but no number.
	d := disk(t, 12)
	logs(t, d, 0, top-2, allOf(names{"a": "1"}))
	s := opens(t, d)
	refused(t, s, api.ErrWorn, set("b", text(150, 1)))
	has(t, s, names{"a": "1"}, 0, api.ErrWorn)
	refused(t, s, api.ErrWorn, set("b", "2"))
	refused(t, s, api.ErrWorn, set("", "2"))
	refused(t, s, api.ErrWorn)
	s = opens(t, d)
	applies(t, s, set("b", "2"))
	has(t, s, names{"a": "1", "b": "2"}, 0, api.OK)
	refused(t, s, api.ErrWorn, set("b", "3"))
	has(t, s, names{"a": "1", "b": "2"}, 0, api.ErrWorn)
	// Where all is written anew: no room is told ahead, and doesn't stay.
	d = disk(t, 4)
	logs(t, d, 0, top-3, allOf(names{"a": "1"}), changesOf(set("b", "2")))
	s = opens(t, d)
	refused(t, s, api.ErrSpace, set("c", text(300, 1)))
	has(t, s, names{"a": "1", "b": "2"}, 0, api.OK)
	refused(t, s, api.ErrWorn, set("c", text(110, 1)))
	has(t, s, names{"a": "1", "b": "2"}, 0, api.ErrWorn)
	refused(t, s, api.ErrWorn, set("c", "3"))
	has(t, opens(t, d), names{"a": "1", "b": "2"}, 0, api.OK)
}

// Behind what is torn in the same half changes go on, with numbers behind it.
func TestP102AppliesToOpened(t *testing.T) {
	for at := range 2 {
		d := disk(t, 20)
		logs(t, d, at*10, 50, allOf(names{"a": "1"}), changesOf(set("b", "2")))
		lay(t, d, at*10+2, ends(61))
		lay(t, d, at*10+3, parts(52, changesOf(gone("a")))[0])
		want := all(t, d)
		s := opens(t, d)
		has(t, s, names{"a": "1", "b": "2"}, 0, api.OK)
		applies(t, s, set("c", "3"))
		want[at*10+2] = parts(62, changesOf(set("c", "3")))[0]
		if !same(all(t, d), want) {
			t.Error(at, "other blocks are written")
		}
		has(t, s, names{"a": "1", "b": "2", "c": "3"}, 0, api.OK)
		has(t, opens(t, d), names{"a": "1", "b": "2", "c": "3"}, 0, api.OK)
	}
}

// model is a store worked out from the promises' words in another way: by the disk's blocks.
type model struct {
	list  [][]byte
	n     int // blocks of a half
	at    int
	used  int // 0: the half has no record
	next  uint64
	now   names
	turns int
}

// above is the number behind all that stand at the ends of a half's blocks.
func (m *model) above(at int) uint64 {
	var most uint64
	for _, b := range m.list[at*m.n : (at+1)*m.n] {
		most = max(most, binary.BigEndian.Uint64(b[:8]), binary.BigEndian.Uint64(b[120:]))
	}
	return most + 1
}

// opened is one of a disk's blocks, as wal tells its records.
func opened(t *testing.T, d *blocks.Disk) *model {
	t.Helper()
	m := &model{list: all(t, d), n: d.Len() / 2, now: names{}}
	var first [2]uint64
	for i := range 2 {
		l, err := wal.Open(d, i*m.n, m.n)
		if err != api.OK {
			t.Fatal(err)
		}
		first[i] = l.First()
		if first[i] > first[m.at] {
			m.at = i
		}
	}
	if first[m.at] == 0 {
		m.next = max(m.above(0), m.above(1))
		return m
	}
	m.next = m.above(m.at)
	l, _ := wal.Open(d, m.at*m.n, m.n)
	m.used = m.n - l.Free()
	for _, b := range l.Records() {
		m.does(t, b)
	}
	return m
}

// does takes over what a record says, which the test's own telling wrote.
func (m *model) does(t *testing.T, b []byte) {
	t.Helper()
	number := func() int {
		x, n := binary.Uvarint(b)
		b = b[n:]
		return int(x)
	}
	some := func() string {
		n := number()
		s := string(b[:n])
		b = b[n:]
		return s
	}
	kind := number()
	for range number() {
		key := some()
		if kind == 2 && number() == 1 {
			delete(m.now, key)
			continue
		}
		m.now[key] = some()
	}
	if len(b) != 0 {
		t.Fatal("bytes are left")
	}
}

// apply does changes.
func (m *model) apply(l []cells.Change) api.Errno {
	now := after(m.now, l)
	p := parts(m.next, changesOf(l...))
	at, next, used := m.at, m.next, m.used
	if used == 0 || used+len(p) > m.n {
		at, used = 1-at, 0
		next = max(next, m.above(at))
		p = parts(next, allOf(now))
		if len(p) > m.n {
			return api.ErrSpace
		}
		m.turns++
	}
	copy(m.list[at*m.n+used:], p)
	m.at, m.used, m.next, m.now = at, used+len(p), next+uint64(len(p)), now
	return api.OK
}

// someChanges are any few.
func someChanges(r *rand.Rand, longest int) []cells.Change {
	var l []cells.Change
	for range 1 + r.Intn(4) {
		key := text(1+r.Intn(3), r.Intn(4))
		if r.Intn(3) == 0 {
			l = append(l, gone(key))
		} else {
			l = append(l, set(key, text(r.Intn(longest), r.Intn(100))))
		}
	}
	return l
}

func TestP102AnyOrder(t *testing.T) {
	r := rand.New(rand.NewSource(102))
	for range 300 {
		n := 2 + r.Intn(40)
		d := disk(t, n)
		s := opens(t, d)
		m := opened(t, d)
		longest := 1 + r.Intn(30*n)
		for range 40 {
			if r.Intn(8) == 0 {
				s, m = opens(t, d), opened(t, d)
			}
			l := someChanges(r, longest)
			if got, want := s.Apply(l), m.apply(l); got != want {
				t.Fatal(got, want)
			}
			has(t, s, m.now, m.turns, api.OK)
			has(t, opens(t, d), m.now, 0, api.OK)
			if !same(all(t, d), m.list) {
				t.Fatal("other blocks are written")
			}
		}
		if t.Failed() {
			t.FailNow()
		}
	}
}

// --- P10.3: Get, Keys, Err, Turns

func TestP103Get(t *testing.T) {
	d := disk(t, 40)
	s := opens(t, d)
	for _, k := range []string{"", "a", text(64, 1), text(65, 1)} {
		if b, ok := s.Get(k); ok || len(b) != 0 {
			t.Errorf("%q: %d bytes, %v", k, len(b), ok)
		}
	}
	applies(t, s, set("a", "1"), set("ab", ""), set("\x00", "\x00"), set(text(64, 1), "x"))
	for range 2 {
		has(t, s, names{"a": "1", "ab": "", "\x00": "\x00", text(64, 1): "x"}, s.Turns(), api.OK)
		for _, k := range []string{"", "b", "A", "a\x00", "abc", "\x00\x00", text(63, 1), text(65, 1), text(64, 1) + "\x00"} {
			if b, ok := s.Get(k); ok || len(b) != 0 {
				t.Errorf("%q: %d bytes, %v", k, len(b), ok)
			}
		}
		s = opens(t, d)
	}
	applies(t, s, gone("a"))
	if b, ok := s.Get("a"); ok || len(b) != 0 {
		t.Error(b, ok)
	}
}

// Names rise byte by byte, in whatever order they came.
func TestP103Keys(t *testing.T) {
	want := []string{"\x00", "\x00\x00", "\x01", "A", "B", "Z", "a", "a\x00", "a/b", "aa", "ab", "b", "z", "{", "\x7f", "\x80", "é", "世", "\xff", "\xff\xff"}
	r := rand.New(rand.NewSource(103))
	for range 30 {
		d := disk(t, 60)
		s := opens(t, d)
		for _, i := range r.Perm(len(want)) {
			applies(t, s, set(want[i], strconv.Itoa(i)))
		}
		for range 2 {
			if got := s.Keys(); !slices.Equal(got, want) {
				t.Fatalf("%q", got)
			}
			s = opens(t, d)
		}
	}
	if l := opens(t, disk(t, 2)).Keys(); len(l) != 0 {
		t.Error("a new disk has names:", l)
	}
}

// Turns are counted since the store was opened.
func TestP103Turns(t *testing.T) {
	d := disk(t, 2)
	s := opens(t, d)
	for i := range 10 {
		if s.Turns() != i {
			t.Error(i, s.Turns())
		}
		applies(t, s, set("a", text(i, i)))
	}
	s = opens(t, d)
	if s.Turns() != 0 {
		t.Error(s.Turns())
	}
	applies(t, s, set("a", "x"))
	if s.Turns() != 1 {
		t.Error(s.Turns())
	}
}

// A turn that isn't done isn't counted.
func TestP103TurnsThatFail(t *testing.T) {
	d := disk(t, 2)
	s := opens(t, d)
	applies(t, s, set("a", "x"))
	refused(t, s, api.ErrSpace, set("a", text(200, 1)))
	has(t, s, names{"a": "x"}, 1, api.OK)
	d.Stop(0, 128)
	refused(t, s, api.ErrDown, set("a", "y"))
	has(t, s, names{"a": "x"}, 1, api.ErrDown)
	d.Restart()
	has(t, opens(t, d), names{"a": "y"}, 0, api.OK) // all of the write was laid
}

func TestP103OfNil(t *testing.T) {
	var s *cells.Store
	has(t, s, nil, 0, api.ErrArg)
	for _, k := range []string{"", "a"} {
		if b, ok := s.Get(k); b != nil || ok {
			t.Error(b, ok)
		}
	}
	refused(t, s, api.ErrArg)
	refused(t, s, api.ErrArg, set("a", "1"))
	refused(t, s, api.ErrArg, set("", ""))
	if l := s.Keys(); len(l) != 0 {
		t.Error(l)
	}
}

// One that Open didn't make answers something, without a panic.
func TestP103OfNoDisk(t *testing.T) {
	s := new(cells.Store)
	if l := s.Keys(); len(l) != 0 {
		t.Error(l)
	}
	if b, ok := s.Get("a"); ok || len(b) != 0 {
		t.Error(b, ok)
	}
	if s.Apply([]cells.Change{set("a", "1")}) == api.OK || s.Turns() != 0 {
		t.Error("changes are done on no disk")
	}
}

// --- P10.4: what follows

// isOneOf fails unless a store has just the one names, or the other ones.
func isOneOf(t *testing.T, s *cells.Store, had, more names) {
	t.Helper()
	if got := told(s); !maps.Equal(got, had) && !maps.Equal(got, more) {
		t.Errorf("%d names, and neither %d nor %d, or other bytes", len(got), len(had), len(more))
	}
}

// story are commands of which some are added, some are turns, of one block and of several.
func story() [][]cells.Change {
	return [][]cells.Change{
		{set("a", "1"), set("b", text(150, 1))},
		{set("c", text(200, 2)), gone("a")},
		{set("d", "4")},
		{set("a", text(120, 3)), set("b", text(90, 4))},
		{gone("c"), set("e", "5")},
		{set("c", text(300, 5)), gone("d")},
		{gone("c")},
		{set("f", text(111, 6))},
		{gone("a"), gone("b"), gone("e"), gone("f")},
		{set("a", "2")},
	}
}

// writes is how many writes changes take.
func writes(t *testing.T, d *blocks.Disk, l []cells.Change) int {
	t.Helper()
	m := opened(t, d)
	at, used := m.at, m.used
	if err := m.apply(l); err != api.OK {
		t.Fatal(err)
	}
	if m.at != at {
		return m.used
	}
	return m.used - used
}

// build is a disk on which the first few commands of the story were done, and the names then.
func build(t *testing.T, blocks, commands int) (*blocks.Disk, names) {
	t.Helper()
	d := disk(t, blocks)
	s := opens(t, d)
	var now names
	for _, l := range story()[:commands] {
		applies(t, s, l...)
		now = after(now, l)
	}
	return d, now
}

// Each write of each command is torn at each byte; what is opened then goes on.
func TestP104TornAnywhere(t *testing.T) {
	for _, n := range []int{14, 19, 30} {
		for i, l := range story() {
			d, _ := build(t, n, i)
			for stop := range writes(t, d, l) {
				for torn := range 129 {
					d, had := build(t, n, i)
					tear(t, d, l, stop, torn, had)
					if t.Failed() {
						t.Fatal(n, i, stop, torn)
					}
				}
			}
		}
	}
}

// tear tears a write of changes, and goes on with the store that is opened then.
func tear(t *testing.T, d *blocks.Disk, l []cells.Change, stop, torn int, had names) {
	t.Helper()
	s := opens(t, d)
	d.Stop(stop, torn)
	refused(t, s, api.ErrDown, l...)
	has(t, s, had, 0, api.ErrDown)
	d.Restart()
	s = opens(t, d)
	isOneOf(t, s, had, after(had, l))
	now := told(s)
	has(t, opens(t, d), now, 0, api.OK)
	for _, l := range [][]cells.Change{{set("x", text(130, 9))}, {gone("b"), set("c", text(200, 8))}, {gone("x"), gone("c")}} {
		applies(t, s, l...)
		now = after(now, l)
		has(t, s, now, s.Turns(), api.OK)
		has(t, opens(t, d), now, 0, api.OK)
	}
}

// With numbers such that one more changes more than a byte.
func TestP104TornAtNumbers(t *testing.T) {
	for _, k := range []uint64{252, 253, 254, 255, 256, 508, 510, 65520} {
		for stop := range 3 {
			for torn := range 129 {
				for at := range 2 {
					d := disk(t, 16)
					logs(t, d, (1-at)*8, k-9, allOf(names{"o": text(200, 4)}), changesOf(set("p", text(200, 3))))
					logs(t, d, at*8, k-3, allOf(names{"a": text(100, 1)}), changesOf(set("b", "2")))
					tear(t, d, []cells.Change{set("c", text(300, 1))}, stop, torn, names{"a": text(100, 1), "b": "2"})
					d = disk(t, 16)
					logs(t, d, (1-at)*8, k-9, allOf(names{"o": text(200, 4)}), changesOf(set("p", text(200, 3))))
					logs(t, d, at*8, k-5, allOf(names{"a": text(300, 1)}), changesOf(set("b", text(200, 2))))
					tear(t, d, []cells.Change{set("b", text(330, 1)), gone("a")}, stop, torn, names{"a": text(300, 1), "b": text(200, 2)})
				}
			}
		}
	}
}

// A disk stops again and again; each time its store is opened anew, and goes on.
func TestP104TornAgainAndAgain(t *testing.T) {
	r := rand.New(rand.NewSource(104))
	for range 250 {
		n := 2 + r.Intn(50)
		d := disk(t, n)
		s := opens(t, d)
		had := names{}
		longest := 1 + r.Intn(15*n)
		for range 60 {
			l := someChanges(r, longest)
			d.Stop(r.Intn(9)-1, r.Intn(129))
			switch err := s.Apply(l); err {
			case api.OK:
				had = after(had, l)
			case api.ErrDown:
				has(t, s, had, s.Turns(), api.ErrDown)
				d.Restart()
				s = opens(t, d)
				isOneOf(t, s, had, after(had, l))
				had = told(s)
			case api.ErrSpace:
			default:
				t.Fatal(err)
			}
			d.Restart()
			has(t, s, had, s.Turns(), api.OK)
			has(t, opens(t, d), had, 0, api.OK)
			if m := opened(t, d); !maps.Equal(m.now, had) {
				t.Fatal("the test's own telling says otherwise")
			}
		}
		if t.Failed() {
			t.FailNow()
		}
	}
}

// Where the same write is torn each time, also at the front of a half, the store stays.
func TestP104TornAtTheFront(t *testing.T) {
	for torn := range 129 {
		d := disk(t, 4)
		had := names{}
		for i := range 30 {
			s := opens(t, d)
			l := []cells.Change{set(strings.Repeat("k", 1+i%3), text(20, i))}
			d.Stop(0, torn)
			refused(t, s, api.ErrDown, l...)
			d.Restart()
			s = opens(t, d)
			isOneOf(t, s, had, after(had, l))
			had = told(s)
			if i%4 != 3 {
				continue
			}
			more := []cells.Change{set("m", text(30, i))}
			applies(t, s, more...)
			had = after(had, more)
			has(t, opens(t, d), had, 0, api.OK)
		}
		if t.Failed() {
			t.Fatal(torn)
		}
	}
}

// --- What is handed in stays, and what is told is in memory of its own

func TestStays(t *testing.T) {
	for _, n := range []int{2, 40} {
		s := opens(t, disk(t, n))
		room := []byte("0123456789")
		l := append(make([]cells.Change, 0, 9), cells.Change{Key: "z", Value: room[2:5]}, gone("b"), cells.Change{Key: "a", Value: room[:0]}, set("b", "3"), gone("z"))
		behind := l[:9]
		for range 3 {
			applies(t, s, l...)
			refused(t, s, api.ErrArg, append(l[:5:5], set("", ""))...)
		}
		refused(t, s, api.ErrSpace, set("x", text(4096, 1)), set("y", text(4096, 2)))
		if string(room) != "0123456789" || len(l) != 5 || l[0].Key != "z" || string(l[0].Value) != "234" || l[1].Key != "b" || !l[1].Gone || l[2].Key != "a" || len(l[2].Value) != 0 || string(l[3].Value) != "3" || l[4].Key != "z" {
			t.Error("what is handed in is changed")
		}
		for _, c := range behind[5:] {
			if c.Key != "" || c.Value != nil || c.Gone {
				t.Error("what stands behind what is handed in is changed")
			}
		}
	}
}

func TestNotKept(t *testing.T) {
	for _, n := range []int{2, 40} {
		d := disk(t, n)
		s := opens(t, d)
		for turn := range 3 {
			b := []byte(text(50, turn))
			l := []cells.Change{{Key: "a", Value: b}, {Key: "b", Value: b[:1]}}
			applies(t, s, l...)
			clear(b)
			clear(l)
			want := names{"a": text(50, turn), "b": text(1, turn)}
			has(t, s, want, s.Turns(), api.OK)
			has(t, opens(t, d), want, 0, api.OK)
		}
		// What was laid is read from the disk no more.
		was := told(s)
		for i := range n {
			lay(t, d, i, make([]byte, 128))
		}
		has(t, s, was, s.Turns(), api.OK)
	}
}

func TestAnswersInNewMemory(t *testing.T) {
	d := disk(t, 40)
	s := opens(t, d)
	want := names{"a": text(60, 1), "b": "", "c": "3"}
	applies(t, s, set("a", text(60, 1)), set("b", ""), set("c", "3"))
	for range 3 {
		keys, other := s.Keys(), s.Keys()
		a, b := get(s, "a"), get(s, "a")
		clear(a)
		_ = append(a, 77, 77)
		_ = append(a[:7], 78, 78)
		_ = append(get(s, "b"), 79)
		clear(keys)
		_ = append(keys, "x", "y")
		_ = append(keys[:1], "z")
		if string(b) != text(60, 1) || !slices.Equal(other, []string{"a", "b", "c"}) {
			t.Error("two answers share memory")
		}
		has(t, s, want, s.Turns(), api.OK)
		has(t, opens(t, d), want, 0, api.OK)
		s = opens(t, d)
	}
}

// get are a name's bytes.
func get(s *cells.Store, key string) []byte {
	b, _ := s.Get(key)
	return b
}

// What was told earlier stays as it was, whatever is done then.
func TestAnswersStayAsTheyWere(t *testing.T) {
	s := opens(t, disk(t, 4))
	applies(t, s, set("a", "123"), set("b", "456"))
	a, keys := get(s, "a"), s.Keys()
	for i := range 10 {
		applies(t, s, gone("b"), set("a", "9"+strconv.Itoa(i)), set("0", ""))
	}
	applies(t, s, gone("a"))
	if string(a) != "123" || !slices.Equal(keys, []string{"a", "b"}) {
		t.Error("an answer changes with the store")
	}
}

// Two stores on two disks don't touch each other; the same calls have the same answers.
func TestNoStateOfItsOwn(t *testing.T) {
	one := func() ([][]byte, names, int) {
		d := disk(t, 12)
		s := opens(t, d)
		other := opens(t, disk(t, 8))
		for i := range 20 {
			applies(t, s, set(strconv.Itoa(i%7), text(i, i)), gone(strconv.Itoa(i%5)))
			applies(t, other, set("x"+strconv.Itoa(i%3), text(i, i+1)))
		}
		return all(t, d), told(s), s.Turns()
	}
	a, had, turns := one()
	for range 3 {
		if b, now, n := one(); !same(a, b) || !maps.Equal(now, had) || n != turns {
			t.Error("the same calls have other answers")
		}
	}
}
