package dedup_test

import (
	"bytes"
	"encoding/binary"
	"math"
	"math/rand"
	"slices"
	"testing"

	"bailee/api"
	"bailee/dedup"
)

// lastN is the greatest N that may be, as the words tell it.
const lastN = 1023

// kept is an object and its place.
type kept struct {
	id, pack api.Id
	n        int
}

// telling is a second telling of an index, worked out from the words: all that is kept, in the order in which it was added.
type telling []kept

// at is where an object stands; -1: nowhere.
func (m telling) at(id api.Id) int {
	return slices.IndexFunc(m, func(k kept) bool { return k.id == id })
}

// add adds one, and tells what Add must answer.
func (m *telling) add(k kept) bool {
	if m.at(k.id) != -1 || !(-1 < k.n && k.n < lastN+1) {
		return false
	}
	*m = append(*m, k)
	return true
}

// drop takes a pack away, and tells what Drop must answer.
func (m *telling) drop(pack api.Id) int {
	var stay telling
	for _, k := range *m {
		if k.pack != pack {
			stay = append(stay, k)
		}
	}
	n := len(*m) - len(stay)
	*m = stay
	return n
}

// ahead tells whether an id is ahead of another one, byte by byte.
func ahead(a, b api.Id) bool {
	for i := range a {
		if a[i] != b[i] {
			return a[i] < b[i]
		}
	}
	return false
}

// rising is all that is kept, in the order of the objects.
func (m telling) rising() telling {
	var l telling
	for _, k := range m {
		i := 0
		for i < len(l) && ahead(l[i].id, k.id) {
			i++
		}
		l = slices.Insert(l, i, k)
	}
	return l
}

// ids are the objects, rising.
func (m telling) ids() []api.Id {
	var l []api.Id
	for _, k := range m.rising() {
		l = append(l, k.id)
	}
	return l
}

// packs are the packs, rising, and how many objects each one has.
func (m telling) packs() ([]api.Id, []int) {
	var packs []api.Id
	var counts []int
	for _, k := range m {
		i := 0
		for i < len(packs) && ahead(packs[i], k.pack) {
			i++
		}
		if i == len(packs) || packs[i] != k.pack {
			packs, counts = slices.Insert(packs, i, k.pack), slices.Insert(counts, i, 0)
		}
		counts[i]++
	}
	return packs, counts
}

// uint is a number as codec's words tell it.
func uint(n uint64) []byte { return binary.AppendUvarint(nil, n) }

// join are rows, one behind the other.
func join(rows ...[]byte) []byte { return slices.Concat(rows...) }

// row are the bytes of an object and its place, whatever N is.
func row(id, pack api.Id, n uint64) []byte { return join(id[:], pack[:], uint(n)) }

// put are the bytes of all that is kept, in the order in which it stands here.
func (m telling) put() []byte {
	b := uint(uint64(len(m)))
	for _, k := range m {
		b = append(b, row(k.id, k.pack, uint64(k.n))...)
	}
	return b
}

// id is one that begins with these bytes.
func id(b ...byte) api.Id {
	var x api.Id
	copy(x[:], b)
	return x
}

// bytesOf are an id's bytes.
func bytesOf(x api.Id) []byte { return x[:] }

// ends is an id that ends with these bytes.
func ends(b ...byte) api.Id {
	var x api.Id
	copy(x[len(x)-len(b):], b)
	return x
}

// some is an id that is unlike those of other seeds.
func some(seed int) api.Id {
	var x api.Id
	for i := range x {
		x[i] = byte(seed*(2*i+1) + seed>>8 + i)
	}
	binary.LittleEndian.PutUint32(x[8:], uint32(seed))
	return x
}

// chance is an id by chance, one of 12.
func chance(r *rand.Rand) api.Id {
	switch n := byte(r.Intn(12)); {
	case n < 4:
		return id(n)
	case n < 8:
		return ends(n * 37)
	default:
		return id(n*29, n)
	}
}

// adds is an index with these added, one by one; the test's own telling must say that each one may be.
func adds(t *testing.T, l ...kept) *dedup.Index {
	t.Helper()
	x := dedup.New()
	var m telling
	for _, k := range l {
		if !m.add(k) {
			t.Fatal("the test's own telling says otherwise")
		}
		if !x.Add(k.id, dedup.Place{Pack: k.pack, N: k.n}) {
			t.Error("isn't added:", k)
		}
	}
	return x
}

// finds fails unless an object has this place.
func finds(t *testing.T, x *dedup.Index, k kept) {
	t.Helper()
	if p, is := x.Find(k.id); !is || p != (dedup.Place{Pack: k.pack, N: k.n}) {
		t.Error("find of", k.id, ":", p, is, "and not", k.pack, k.n)
	}
}

// without fails unless objects have no place.
func without(t *testing.T, x *dedup.Index, ids ...api.Id) {
	t.Helper()
	for _, i := range ids {
		if p, is := x.Find(i); is || p != (dedup.Place{}) {
			t.Error("find of", i, ":", p, is, "and not nothing")
		}
	}
}

// says fails unless an index says of itself what the test's own telling does.
func says(t *testing.T, x *dedup.Index, m telling) {
	t.Helper()
	for _, k := range m {
		finds(t, x, k)
	}
	if l := x.Ids(); !slices.Equal(l, m.ids()) {
		t.Error("ids:", l, "and not", m.ids())
	}
	packs, counts := x.Packs()
	wantPacks, wantCounts := m.packs()
	if !slices.Equal(packs, wantPacks) || !slices.Equal(counts, wantCounts) {
		t.Error("packs:", packs, counts, "and not", wantPacks, wantCounts)
	}
	if b := x.Put(); !bytes.Equal(b, m.rising().put()) {
		t.Error("put:", b, "and not", m.rising().put())
	}
}

// gets is the index of bytes; it fails unless it says what the test's own telling does.
func gets(t *testing.T, b []byte, m telling) *dedup.Index {
	t.Helper()
	x, err := dedup.Get(b)
	if err != api.OK || x == nil {
		t.Fatal("get of", b, ":", err)
	}
	says(t, x, m)
	return x
}

// refused fails unless bytes are refused.
func refused(t *testing.T, b []byte, want api.Errno) {
	t.Helper()
	if x, err := dedup.Get(b); err != want || x != nil {
		t.Error("get of", len(b), "bytes,", b[:min(len(b), 70)], "..:", err, "and not", want, "index:", x != nil)
	}
}

// many are so many objects, in so many packs.
func many(n, packs int) telling {
	var m telling
	for i := range n {
		m = append(m, kept{some(i), some(1<<20 + i*i%packs), i % (lastN + 1)})
	}
	return m
}

// few are some tellings.
func few() []telling {
	return []telling{
		nil,
		{{id(), id(), 0}},
		{{id(), id(), lastN}, {id(1), id(), 127}, {ends(1), id(), 128}},
		{{id(9), id(3), 5}, {id(8), id(4), 5}, {id(7), id(3), 6}, {id(200), id(255), 300}},
		{{id(0x80), ends(0x80), 1}, {id(0x7f), ends(0x7f), 1}, {ends(0x80), id(0x80), 1}, {ends(0x7f), id(0x7f), 1}},
		many(20, 3),
		many(127, 1),
		many(128, 128),
		many(300, 7),
	}
}

// --- P14.1: New, Add, Find, Drop

func TestP141NewHasNothing(t *testing.T) {
	x := dedup.New()
	if x == nil {
		t.Fatal("no index")
	}
	without(t, x, id(), id(1), some(1))
	for _, pack := range []api.Id{id(), id(1), some(1)} {
		if n := x.Drop(pack); n != 0 {
			t.Error("drop of", pack, ":", n)
		}
	}
	says(t, x, nil)
}

func TestP141AddAndFind(t *testing.T) {
	for _, m := range few() {
		x := adds(t, m...)
		says(t, x, m)
		without(t, x, id(77), ends(77), some(1<<24))
	}
}

// N is 0 to 1023; what may not be changes nothing.
func TestP141NAtItsEdges(t *testing.T) {
	for _, n := range []int{0, 1, 2, 127, 128, 255, 256, 1022, lastN} {
		k := kept{some(n), some(5), n}
		says(t, adds(t, k), telling{k})
	}
	bad := []int{-1, -2, -127, -128, -1023, -1024, math.MinInt32, math.MinInt, lastN + 1, lastN + 2, 2047, 2048, 1 << 16, 1 << 32, 1<<32 + 5, -1 << 32, math.MaxInt32, math.MaxInt}
	x := dedup.New()
	for _, n := range bad {
		if x.Add(id(1), dedup.Place{Pack: id(2), N: n}) {
			t.Error("is added:", n)
		}
		without(t, x, id(1))
		says(t, x, nil)
	}
	// What was refused may be added then.
	if !x.Add(id(1), dedup.Place{Pack: id(2), N: lastN}) {
		t.Error("isn't added")
	}
	says(t, x, telling{{id(1), id(2), lastN}})
	for _, n := range bad {
		if x.Add(id(1), dedup.Place{Pack: id(2), N: n}) {
			t.Error("is added:", n)
		}
		says(t, x, telling{{id(1), id(2), lastN}})
	}
}

// An object keeps the place that it has.
func TestP141AddTwice(t *testing.T) {
	for _, had := range []kept{{id(1), id(2), 3}, {id(1), id(), 0}, {id(), id(2), 3}, {id(), id(), 0}} {
		x := adds(t, had)
		for _, p := range []dedup.Place{{Pack: had.pack, N: had.n}, {Pack: had.pack, N: had.n + 1}, {Pack: id(9), N: had.n}, {Pack: id(9), N: 9}, {}, {Pack: id(9), N: -1}, {Pack: id(9), N: 1024}} {
			if x.Add(had.id, p) {
				t.Error("is added:", had, p)
			}
			says(t, x, telling{had})
		}
	}
}

// Nothing but an object's own place counts: places and ids may be one another's.
func TestP141OnePlaceForMany(t *testing.T) {
	m := telling{{id(1), id(9), 4}, {id(2), id(9), 4}, {id(9), id(9), 4}, {id(3), id(1), 4}, {id(4), id(4), 4}}
	x := adds(t, m...)
	says(t, x, m)
	if n := x.Drop(id(9)); n != 3 {
		t.Error("drop:", n)
	}
	says(t, x, m[3:])
}

// An id of noughts is one as any other.
func TestP141Noughts(t *testing.T) {
	k := kept{id(), id(), 0}
	x := dedup.New()
	without(t, x, id())
	if !x.Add(id(), dedup.Place{}) {
		t.Error("isn't added")
	}
	finds(t, x, k)
	says(t, x, telling{k})
	if n := x.Drop(id(1)); n != 0 {
		t.Error("drop of another pack:", n)
	}
	finds(t, x, k)
	if n := x.Drop(id()); n != 1 {
		t.Error("drop:", n)
	}
	says(t, x, nil)
	without(t, x, id())
}

// Each bit of an id, and of a pack, counts.
func TestP141EachBit(t *testing.T) {
	base, pack := some(3), some(4)
	one := kept{base, pack, 1}
	all := telling{one}
	x := adds(t, one)
	for bit := range 8 * api.Digest {
		k := kept{base, pack, bit}
		k.id[bit/8] ^= 1 << (bit % 8)
		k.pack[bit/8] ^= 1 << (bit % 8)
		without(t, x, k.id)
		if n := x.Drop(k.pack); n != 0 {
			t.Error("drop of another pack:", n)
		}
		if !x.Add(k.id, dedup.Place{Pack: k.pack, N: k.n}) {
			t.Error("isn't added:", bit)
		}
		finds(t, x, one)
		finds(t, x, k)
		if bit%8 == bit/8%8 {
			all = append(all, k)
			continue
		}
		if n := x.Drop(k.pack); n != 1 {
			t.Error("drop:", n)
		}
		without(t, x, k.id)
	}
	says(t, x, all)
}

func TestP141Drop(t *testing.T) {
	m := telling{{id(1), id(7), 0}, {id(2), id(8), 1}, {id(3), id(7), 2}, {id(4), id(9), 3}, {id(5), id(7), 4}}
	x := adds(t, m...)
	for _, none := range []api.Id{id(), id(1), id(2), id(6), ends(7)} {
		if n := x.Drop(none); n != 0 {
			t.Error("drop of", none, ":", n)
		}
		says(t, x, m)
	}
	if n := x.Drop(id(7)); n != 3 {
		t.Error("drop:", n)
	}
	without(t, x, id(1), id(3), id(5))
	says(t, x, telling{m[1], m[3]})
	if n := x.Drop(id(7)); n != 0 {
		t.Error("drop anew:", n)
	}
	says(t, x, telling{m[1], m[3]})
	// They may be added anew, at another place, or there.
	again := telling{m[1], m[3], {id(5), id(6), 9}, {id(1), id(7), 0}}
	for _, k := range again[2:] {
		if !x.Add(k.id, dedup.Place{Pack: k.pack, N: k.n}) {
			t.Error("isn't added anew:", k)
		}
	}
	says(t, x, again)
	for i, pack := range []api.Id{id(9), id(8), id(7), id(6)} {
		if n := x.Drop(pack); n != 1 {
			t.Error("drop of", i, ":", n)
		}
	}
	says(t, x, nil)
}

// Of many objects all of the pack go, and none else.
func TestP141DropOfMany(t *testing.T) {
	m := many(5000, 11)
	x := adds(t, m...)
	left := slices.Clone(m)
	packs, counts := m.packs()
	sum := 0
	for i, pack := range packs {
		want := left.drop(pack)
		if n := x.Drop(pack); n != want || n != counts[i] {
			t.Error("drop:", n, "and not", want)
		}
		sum += counts[i]
		if l := x.Ids(); len(l) != len(m)-sum || len(l) != len(left) {
			t.Error("objects:", len(l))
		}
		for _, k := range m {
			if k.pack == pack {
				without(t, x, k.id)
			}
		}
	}
	says(t, x, nil)
}

// By chance: whatever is done, an index says what the words do.
func TestP141ByChance(t *testing.T) {
	for seed := range 200 {
		r := rand.New(rand.NewSource(int64(seed)))
		x := dedup.New()
		var m telling
		for range 60 {
			switch r.Intn(8) {
			case 0:
				pack := chance(r)
				if n, want := x.Drop(pack), m.drop(pack); n != want {
					t.Error("drop:", n, "and not", want)
				}
			case 1:
				x = gets(t, x.Put(), m)
			default:
				k := kept{chance(r), chance(r), r.Intn(lastN+5) - 2}
				if is, want := x.Add(k.id, dedup.Place{Pack: k.pack, N: k.n}), m.add(k); is != want {
					t.Error("add:", k, is, "and not", want)
				}
			}
			if k := chance(r); m.at(k) == -1 {
				without(t, x, k)
			}
		}
		says(t, x, m)
		if t.Failed() {
			t.Fatal(seed)
		}
	}
}

// An Index that New didn't make has nothing yet, too.
func TestP141Zero(t *testing.T) {
	says(t, &dedup.Index{}, nil)
	x := new(dedup.Index)
	without(t, x, id(), id(1))
	if n := x.Drop(id(1)); n != 0 {
		t.Error("drop:", n)
	}
	if x.Add(id(1), dedup.Place{Pack: id(2), N: -1}) || !x.Add(id(1), dedup.Place{Pack: id(2), N: 3}) || x.Add(id(1), dedup.Place{Pack: id(2), N: 3}) {
		t.Error("add")
	}
	says(t, x, telling{{id(1), id(2), 3}})
}

// --- P14.2: Ids, Packs, Put, Get

func TestP142Example(t *testing.T) {
	if b := dedup.New().Put(); !bytes.Equal(b, []byte{0}) {
		t.Error(b)
	}
}

// They rise byte by byte, the first one first, as numbers without a sign.
func TestP142IdsRise(t *testing.T) {
	rising := []api.Id{id(), ends(1), ends(2), ends(0x7f), ends(0x80), ends(255), ends(1, 0), ends(1, 255), id(0, 255), id(1), id(1, 0, 5), id(1, 1), id(2), id(0x7f, 255), id(0x80), id(0x80, 0x7f), id(0x80, 0x80), id(255), id(255, 255)}
	for shift := range rising {
		x := dedup.New()
		for i := range rising {
			k := rising[(i*7+shift)%len(rising)]
			if !x.Add(k, dedup.Place{Pack: k, N: i}) {
				t.Error("isn't added:", k)
			}
		}
		if l := x.Ids(); !slices.Equal(l, rising) {
			t.Error("ids:", l)
		}
		packs, counts := x.Packs()
		if !slices.Equal(packs, rising) || !slices.Equal(counts, slices.Repeat([]int{1}, len(rising))) {
			t.Error("packs:", packs, counts)
		}
	}
}

// At each place of an id its byte counts, and what stands ahead counts more.
func TestP142EachByteRises(t *testing.T) {
	for at := range api.Digest {
		var l []api.Id
		for _, b := range []byte{0, 1, 0x7f, 0x80, 255} {
			var x api.Id
			x[at] = b
			if at+1 < api.Digest {
				x[at+1] = 255 - b
			}
			l = append(l, x)
		}
		x := dedup.New()
		for i := range l {
			k := l[(i*3+at)%len(l)]
			if !x.Add(k, dedup.Place{Pack: k}) {
				t.Error("isn't added:", k)
			}
		}
		packs, _ := x.Packs()
		if got := x.Ids(); !slices.Equal(got, l) || !slices.Equal(packs, l) {
			t.Error(at, got, packs)
		}
		gets(t, x.Put(), telling{{l[0], l[0], 0}, {l[1], l[1], 0}, {l[2], l[2], 0}, {l[3], l[3], 0}, {l[4], l[4], 0}})
	}
}

func TestP142Packs(t *testing.T) {
	x := adds(t, kept{id(1), id(200), 0}, kept{id(2), id(9), 1}, kept{id(3), id(200), 1}, kept{id(4), id(), 1}, kept{id(5), id(200), 1}, kept{id(6), id(9), 7})
	packs, counts := x.Packs()
	if !slices.Equal(packs, []api.Id{id(), id(9), id(200)}) || !slices.Equal(counts, []int{1, 2, 3}) {
		t.Error(packs, counts)
	}
	// A pack of which no object is left is none.
	x.Drop(id(9))
	packs, counts = x.Packs()
	if !slices.Equal(packs, []api.Id{id(), id(200)}) || !slices.Equal(counts, []int{1, 3}) {
		t.Error(packs, counts)
	}
	// More than a pack has blobs may be in it, too: nothing says otherwise.
	m := many(1500, 1)
	packs, counts = adds(t, m...).Packs()
	if !slices.Equal(packs, []api.Id{m[0].pack}) || !slices.Equal(counts, []int{1500}) {
		t.Error(packs, counts)
	}
}

func TestP142PutByteByByte(t *testing.T) {
	a, b, c := some(1), id(5, 6), ends(7, 8)
	for _, x := range []struct {
		l    []kept
		want []byte
	}{
		{nil, []byte{0}},
		{[]kept{{a, b, 0}}, join([]byte{1}, a[:], b[:], []byte{0})},
		{[]kept{{b, a, 127}}, join([]byte{1}, b[:], a[:], []byte{127})},
		{[]kept{{b, a, 128}}, join([]byte{1}, b[:], a[:], []byte{0x80, 1})},
		{[]kept{{b, a, 1023}}, join([]byte{1}, b[:], a[:], []byte{0xff, 7})},
		{[]kept{{b, a, 300}, {c, b, 5}}, join([]byte{2}, c[:], b[:], []byte{5}, b[:], a[:], []byte{0xac, 2})},
		{[]kept{{c, c, 2}, {b, c, 1}}, join([]byte{2}, c[:], c[:], []byte{2}, b[:], c[:], []byte{1})},
	} {
		index := adds(t, x.l...)
		if got := index.Put(); !bytes.Equal(got, x.want) {
			t.Error(got, "and not", x.want)
		}
		gets(t, x.want, x.l)
	}
}

// How many there are is a number that takes more bytes behind 127 and 16383.
func TestP142PutOfMany(t *testing.T) {
	for _, n := range []int{1, 126, 127, 128, 129, 1023, 1024, 1025, 16383, 16384, 16385} {
		x := dedup.New()
		var want []byte
		for i := range n {
			k, pack := ends(byte(i>>8), byte(i)), id(byte(i%5))
			if !x.Add(k, dedup.Place{Pack: pack, N: i % (lastN + 1)}) {
				t.Fatal("isn't added:", i)
			}
			want = append(want, row(k, pack, uint64(i%(lastN+1)))...)
		}
		want = join(uint(uint64(n)), want)
		if b := x.Put(); !bytes.Equal(b, want) {
			t.Error(n, len(b), len(want))
		}
		back, err := dedup.Get(want)
		if err != api.OK || !slices.Equal(back.Ids(), x.Ids()) || !bytes.Equal(back.Put(), want) {
			t.Error(n, err)
		}
	}
}

func TestP142Get(t *testing.T) {
	for _, m := range few() {
		x := gets(t, m.rising().put(), m)
		without(t, x, id(77), some(1<<24))
		// It is one as any other.
		now := slices.Clone(m)
		k := kept{some(1 << 25), some(1 << 21), 8}
		for range 2 {
			if is, want := x.Add(k.id, dedup.Place{Pack: k.pack, N: k.n}), now.add(k); is != want {
				t.Error("add:", is)
			}
		}
		says(t, x, now)
		for _, pack := range []api.Id{id(), id(3), some(1 << 20)} {
			if n, want := x.Drop(pack), now.drop(pack); n != want {
				t.Error("drop:", n, "and not", want)
			}
			says(t, x, now)
		}
	}
}

// Each N is at most 1023.
func TestP142GetN(t *testing.T) {
	for _, n := range []uint64{0, 1, 127, 128, 1022, lastN} {
		gets(t, join([]byte{1}, row(id(1), id(2), n)), telling{{id(1), id(2), int(n)}})
	}
	for _, n := range []uint64{lastN + 1, lastN + 2, 2047, 2048, 1 << 16, 1 << 31, 1<<31 + 5, 1 << 32, 1<<32 + 5, 1 << 62, 1<<63 - 1, 1 << 63, 1<<63 + 5, 1<<64 - 1, 1<<64 - 1024} {
		refused(t, join([]byte{1}, row(id(1), id(2), n)), api.ErrForm)
		for at := range 3 {
			var rows []byte
			for i := range 3 {
				of := uint64(i)
				if i == at {
					of = n
				}
				rows = append(rows, row(id(byte(i)), id(9), of)...)
			}
			refused(t, join([]byte{3}, rows), api.ErrForm)
		}
	}
}

// Objects rise, also from the first to the second one, and none is there twice.
func TestP142GetRises(t *testing.T) {
	l := []api.Id{id(), ends(1), ends(0x80), ends(1, 0), id(1), id(1, 1), id(0x7f, 255), id(0x80), id(255)}
	for i := range l {
		for j := range l {
			pair := telling{{l[i], id(9), 1}, {l[j], id(8), 2}}
			if i < j {
				gets(t, pair.put(), pair)
				continue
			}
			refused(t, pair.put(), api.ErrForm)
			// Twins with one place aren't better.
			pair[1].pack, pair[1].n = id(9), 1
			refused(t, pair.put(), api.ErrForm)
			for k := range l {
				refused(t, telling{{l[k], id(), 0}, pair[0], pair[1]}.put(), api.ErrForm)
				refused(t, telling{pair[0], pair[1], {l[k], id(), 0}}.put(), api.ErrForm)
			}
		}
	}
	// Of three, in whatever order, just one order may be.
	for _, order := range [][]int{{0, 1, 2}, {0, 2, 1}, {1, 0, 2}, {1, 2, 0}, {2, 0, 1}, {2, 1, 0}} {
		var m telling
		for _, i := range order {
			m = append(m, kept{l[2*i], id(byte(i)), i})
		}
		if slices.IsSorted(order) {
			gets(t, m.put(), m)
			continue
		}
		refused(t, m.put(), api.ErrForm)
	}
	// Packs needn't rise.
	m := telling{{id(1), id(9), 9}, {id(2), id(8), 8}, {id(3), id(9), 7}, {id(4), id(7), 9}}
	gets(t, m.put(), m)
}

func TestP142GetTooShort(t *testing.T) {
	refused(t, nil, api.ErrShort)
	refused(t, []byte{}, api.ErrShort)
	for _, m := range few()[:6] {
		b := m.rising().put()
		for n := range b {
			refused(t, b[:n], api.ErrShort)
		}
	}
	// More are told than there are.
	one := row(id(1), id(2), 3)
	for _, n := range []uint64{2, 3, 127, 128, 1 << 16, 1 << 31, 1 << 32, 1 << 40, 1 << 62, 1 << 63, 1<<64 - 1} {
		refused(t, uint(n), api.ErrShort)
		refused(t, join(uint(n), one), api.ErrShort)
	}
}

func TestP142GetLeft(t *testing.T) {
	for _, m := range few() {
		b := m.rising().put()
		for _, left := range [][]byte{{0}, {1}, {255}, make([]byte, 65), row(some(1<<20), id(1), 1)} {
			refused(t, join(b, left), api.ErrLeft)
		}
	}
	one := row(id(1), id(2), 3)
	refused(t, join([]byte{0}, one), api.ErrLeft)
	refused(t, join([]byte{1}, one, row(id(2), id(2), 3)), api.ErrLeft)
}

// Numbers stand in just one way.
func TestP142GetNumbers(t *testing.T) {
	one := row(id(1), id(2), 3)
	for _, number := range [][]byte{{0x80, 0}, {0x81, 0}, {0x81, 0x80, 0}, {255, 255, 255, 255, 255, 255, 255, 255, 255, 2}, {0x80, 0x80, 0x80, 0x80, 0x80, 0x80, 0x80, 0x80, 0x80, 0x80}} {
		refused(t, number, api.ErrForm)
		refused(t, join(number, one), api.ErrForm)
		bad := join(bytesOf(id(1)), bytesOf(id(2)), number)
		refused(t, join([]byte{1}, bad), api.ErrForm)
		refused(t, join([]byte{2}, bad), api.ErrForm)
		refused(t, join([]byte{2}, one, bytesOf(id(2)), bytesOf(id(2)), number, []byte{1}), api.ErrForm)
	}
	for _, number := range [][]byte{{0x80}, {0xff, 0x80}, {0x80, 0x80, 0x80, 0x80, 0x80, 0x80, 0x80, 0x80, 0x80}} {
		refused(t, number, api.ErrShort)
		refused(t, join([]byte{1}, bytesOf(id(1)), bytesOf(id(2)), number), api.ErrShort)
	}
}

// codec's errors are told ahead of objects that don't rise, and of an N that may not be, wherever these stand.
func TestP142GetFirstFault(t *testing.T) {
	much := row(id(1), id(2), lastN+1)
	falling := join(row(id(2), id(2), 3), row(id(1), id(2), 3))
	twins := join(row(id(2), id(2), 3), row(id(2), id(2), 3))
	for _, x := range []struct {
		n    uint64
		rows []byte
	}{{1, much}, {2, falling}, {2, twins}, {3, join(much, falling)}, {3, join(twins, much)}, {4, join(much, falling, much)}} {
		b := join(uint(x.n), x.rows)
		refused(t, b, api.ErrForm)
		refused(t, join(b, []byte{0}), api.ErrLeft)
		refused(t, join(b, much), api.ErrLeft)
		refused(t, b[:len(b)-1], api.ErrShort)
		for _, more := range []uint64{1, 2, 1 << 40, 1<<64 - 1 - x.n} {
			refused(t, join(uint(x.n+more), x.rows), api.ErrShort)
			refused(t, join(uint(x.n+more), x.rows, make([]byte, 64)), api.ErrShort)
		}
		refused(t, join(uint(x.n+1), x.rows, make([]byte, 64), []byte{0x80}), api.ErrShort)
	}
}

// All short rows of bytes: but for a nought alone each one is too short, or has bytes left, or a number that stands otherwise.
func TestP142GetAllShort(t *testing.T) {
	told := func(b []byte) api.Errno {
		switch n, size := binary.Uvarint(b); {
		case size <= 0:
			return api.ErrShort
		case !bytes.Equal(uint(n), b[:size]):
			return api.ErrForm
		case n > 0:
			return api.ErrShort
		case len(b) > size:
			return api.ErrLeft
		}
		return api.OK
	}
	for n := range 1 << 16 {
		for _, b := range [][]byte{{byte(n)}, {byte(n), byte(n >> 8)}, {byte(n), 0x80, byte(n >> 8)}} {
			want := told(b)
			if want == api.OK {
				gets(t, b, nil)
				continue
			}
			refused(t, b, want)
		}
		if t.Failed() {
			t.FailNow()
		}
	}
}

// On nothing: nothing, false, 0.
func TestP142Nil(t *testing.T) {
	var x *dedup.Index
	for _, p := range []dedup.Place{{}, {Pack: id(1), N: 5}, {N: -1}, {N: 1024}} {
		if x.Add(id(1), p) || x.Add(id(), p) {
			t.Error("is added")
		}
	}
	without(t, x, id(), id(1))
	if x.Drop(id()) != 0 || x.Drop(id(1)) != 0 {
		t.Error("drop")
	}
	packs, counts := x.Packs()
	if x.Ids() != nil || packs != nil || counts != nil || len(x.Put()) != 0 {
		t.Error(x.Ids(), packs, counts, x.Put())
	}
}

// --- P14.3: what is put is got; the same places have the same bytes

func TestP143PutIsGot(t *testing.T) {
	for _, m := range few() {
		b := adds(t, m...).Put()
		x := gets(t, b, m)
		for range 3 {
			if again := x.Put(); !bytes.Equal(again, b) {
				t.Error("put anew:", again, "and not", b)
			}
			x = gets(t, x.Put(), m)
		}
	}
}

func TestP143InWhateverOrder(t *testing.T) {
	for seed, m := range few() {
		want := adds(t, m...).Put()
		r := rand.New(rand.NewSource(int64(seed)))
		for range 20 {
			other := slices.Clone(m)
			r.Shuffle(len(other), func(i, j int) { other[i], other[j] = other[j], other[i] })
			x := adds(t, other...)
			if b := x.Put(); !bytes.Equal(b, want) {
				t.Error("put:", b, "and not", want)
			}
			// What came and went is not to be seen.
			gone := some(1 << 22)
			for i := range 5 {
				x.Add(some(1<<23+i), dedup.Place{Pack: gone, N: i})
			}
			if n := x.Drop(gone); n != 5 {
				t.Error("drop:", n)
			}
			if b := x.Put(); !bytes.Equal(b, want) {
				t.Error("put:", b, "and not", want)
			}
		}
	}
}

// Other places have other bytes.
func TestP143OthersDiffer(t *testing.T) {
	m := telling{{id(1), id(2), 3}, {id(4), id(5), 6}}
	was := adds(t, m...).Put()
	for _, other := range []telling{
		m[:1], m[1:], nil,
		{{id(1), id(2), 3}, {id(4), id(5), 7}},
		{{id(1), id(2), 3}, {id(4), id(6), 6}},
		{{id(1), id(2), 3}, {id(3), id(5), 6}},
		{{id(4), id(2), 3}, {id(1), id(5), 6}},
		{m[0], m[1], {id(7), id(2), 3}},
	} {
		if bytes.Equal(adds(t, other...).Put(), was) {
			t.Error("has the same bytes:", other)
		}
	}
}

// Bytes that are changed are refused, or are those of other places, which have just these bytes.
func TestP143JustOneWay(t *testing.T) {
	r := rand.New(rand.NewSource(5))
	good := 0
	for _, m := range few()[1:6] {
		b := m.rising().put()
		for range 4000 {
			c := bytes.Clone(b)
			c[r.Intn(len(c))] ^= 1 << r.Intn(8)
			if r.Intn(4) == 0 {
				c[r.Intn(len(c))] = byte(r.Intn(256))
			}
			x, err := dedup.Get(c)
			switch {
			case err == api.OK && !bytes.Equal(x.Put(), c):
				t.Error("get of", c, "is put as", x.Put())
			case err == api.OK:
				good++
			case x != nil || err != api.ErrForm && err != api.ErrShort && err != api.ErrLeft:
				t.Error("get of", c, ":", err)
			}
		}
	}
	if good < 1000 {
		t.Error("the test tries too little:", good)
	}
}

// --- What is handed in stays, and what is told is in memory of its own

func TestStays(t *testing.T) {
	m := many(9, 2)
	whole := m.rising().put()
	for _, b := range [][]byte{whole, whole[:70], join(whole, []byte{7}), join([]byte{2}, row(id(2), id(), 1), row(id(1), id(), 1))} {
		room := join([]byte{1, 2, 3}, b, []byte{4, 5, 6})
		was := bytes.Clone(room)
		x, err := dedup.Get(room[3 : 3+len(b)])
		if err == api.OK {
			x.Add(id(1), dedup.Place{Pack: id(2)})
			x.Drop(m[0].pack)
		}
		if !bytes.Equal(room, was) {
			t.Error("what is handed in is changed")
		}
	}
}

func TestNotKept(t *testing.T) {
	m := many(9, 2)
	b := m.rising().put()
	x, err := dedup.Get(b)
	if err != api.OK {
		t.Fatal(err)
	}
	clear(b)
	says(t, x, m)
}

func TestAnswersInNewMemory(t *testing.T) {
	m := many(9, 4)
	for _, x := range []*dedup.Index{adds(t, m...), gets(t, m.rising().put(), m)} {
		for range 3 {
			ids, otherIds := x.Ids(), x.Ids()
			packs, counts := x.Packs()
			otherPacks, otherCounts := x.Packs()
			b, otherB := x.Put(), x.Put()
			clear(ids)
			clear(packs)
			clear(counts)
			clear(b)
			_ = append(ids[:1], id(9), id(9))
			_ = append(packs[:1], id(9), id(9))
			_ = append(counts[:1], 9, 9)
			_ = append(b[:1], 9, 9)
			_ = append(ids, id(9))
			_ = append(packs, id(9))
			_ = append(counts, 9)
			_ = append(b, 9)
			wantPacks, wantCounts := m.packs()
			if !slices.Equal(otherIds, m.ids()) || !slices.Equal(otherPacks, wantPacks) || !slices.Equal(otherCounts, wantCounts) || !bytes.Equal(otherB, m.rising().put()) {
				t.Error("two answers share memory")
			}
			says(t, x, m)
		}
	}
}

// What was told earlier stays as it was, whatever is done then.
func TestAnswersStayAsTheyWere(t *testing.T) {
	m := many(9, 4)
	x := adds(t, m...)
	ids, b := x.Ids(), x.Put()
	packs, counts := x.Packs()
	for i := range 20 {
		x.Add(some(100+i), dedup.Place{Pack: some(1<<20 + i), N: i})
		x.Drop(some(1<<20 + i))
	}
	wantPacks, wantCounts := m.packs()
	if !slices.Equal(ids, m.ids()) || !slices.Equal(packs, wantPacks) || !slices.Equal(counts, wantCounts) || !bytes.Equal(b, m.rising().put()) {
		t.Error("an answer changes with the index")
	}
}

// Two indices don't touch each other; the same calls have the same answers.
func TestNoStateOfItsOwn(t *testing.T) {
	x, y := dedup.New(), dedup.New()
	var m, n telling
	for i := range 50 {
		k, l := kept{some(i % 30), some(i % 7), i}, kept{some(i % 20), some(i % 5), i + 100}
		if x.Add(k.id, dedup.Place{Pack: k.pack, N: k.n}) != m.add(k) || y.Add(l.id, dedup.Place{Pack: l.pack, N: l.n}) != n.add(l) {
			t.Error("add", i)
		}
		if i%9 == 8 && (x.Drop(some(3)) != m.drop(some(3)) || y.Drop(some(4)) != n.drop(some(4))) {
			t.Error("drop", i)
		}
	}
	// What was got from bytes doesn't hang on what they were put from.
	z := gets(t, x.Put(), m)
	z.Drop(some(1))
	z.Add(some(999), dedup.Place{})
	for range 5 {
		says(t, x, m)
		says(t, y, n)
	}
}
