package repo_test

import (
	"bytes"
	"math"
	"math/rand"
	"slices"
	"strconv"
	"strings"
	"testing"

	"bailee/api"
	"bailee/files"
	"bailee/objects"
	"bailee/packs"
	"bailee/repo"
	"bailee/seal"
)

// three is a repo of three snapshots, in many packs, and its second telling.
func three(t *testing.T) (*repo.Repo, *telling) {
	t.Helper()
	r, m := fresh(t, config(8, 8, 1, 220))
	for i, l := range [][]files.File{
		tree("a", "some text", "b/c", "more text"),
		tree("a", "some text", "b/c", "more text", "b/d", "0123456789"),
		nil,
	} {
		if _, _, err := backs(t, r, m, l, "tree "+strconv.Itoa(i)); err != api.OK {
			t.Fatal("tree", i, err)
		}
	}
	return r, m
}

// all tells a fault unless all snapshots are told as the second telling tells them.
func all(t *testing.T, r *repo.Repo, m *telling) {
	t.Helper()
	same(t, r, m)
	for _, id := range m.snaps {
		reads(t, r, m, id)
	}
}

// --- P15.3

func TestP153Lose(t *testing.T) {
	r, m := three(t)
	if len(r.Packs()) < 5 {
		t.Fatal("there are few packs:", len(r.Packs()))
	}
	for _, id := range append(m.snaps, api.Id{}, api.Id{1}, m.spots[0].id) {
		if r.Lose(id) {
			t.Error("what is no pack is lost")
		}
		if b, is := r.Pack(id); is || b != nil {
			t.Error("what is no pack has bytes")
		}
	}
	all(t, r, m)
	for _, id := range r.Packs() {
		was, _ := r.Pack(id)
		for i := range 2 {
			if got := r.Lose(id); got != (i == 0) || got != m.lose(id) {
				t.Error("Lose tells", got)
			}
			if b, is := r.Pack(id); is || b != nil {
				t.Error("its bytes are there still")
			}
			all(t, r, m)
		}
		for i, want := range []api.Errno{api.OK, api.ErrTwice} {
			if got := r.Give(was); got != want || got != m.give(was) {
				t.Error("Give", i, "tells", got)
			}
			all(t, r, m)
		}
	}
	for _, id := range r.Packs() {
		r.Lose(id)
		m.lose(id)
		all(t, r, m)
	}
	// All is lost, but where it was is known.
	if _, _, err := backs(t, r, m, tree("a", "some text"), ""); err != api.OK {
		t.Error(err)
	}
	all(t, r, m)
}

func TestP153Give(t *testing.T) {
	r, m := three(t)
	another, _ := repo.New(other, usual)
	_, news, _ := another.Backup(nil, "")
	foreign, _ := another.Pack(news[0])
	one, _ := r.Pack(r.Packs()[0])
	for _, b := range [][]byte{nil, {}, {0}, []byte("no pack"), foreign, one[1:], append(bytes.Clone(one), 0), some(3, 1<<20+7)} {
		if err := r.Give(b); err != api.ErrNone {
			t.Error("Give of what is none tells", err)
		}
	}
	for k := range one {
		b := bytes.Clone(one)
		b[k] ^= 1
		if err := r.Give(b); err != api.ErrNone {
			t.Error("with another byte", k, "Give tells", err)
		}
	}
	all(t, r, m)
	// A pack of no bytes, and one of more than may be: if objects are there, they are given.
	for _, b := range [][]byte{nil, {}, some(3, 1<<20+1)} {
		m := second(ours, usual)
		m.spots = []spot{{api.Id{5}, packs.Id(b), 0}}
		r := m.repo(t)
		for _, want := range []api.Errno{api.OK, api.ErrTwice} {
			if got := r.Give(b); got != want || m.give(b) != want {
				t.Error("Give of", len(b), "bytes tells", got)
			}
		}
		same(t, r, m)
		m.snaps = []api.Id{{5}}
		reads(t, m.repo(t), m, api.Id{5})
		if !r.Lose(packs.Id(b)) || r.Lose(packs.Id(b)) {
			t.Error("Lose of", len(b), "bytes")
		}
	}
}

// TestP153Where: of each object, and of what is none.
func TestP153Where(t *testing.T) {
	r, m := three(t)
	for _, s := range m.spots {
		b, _ := r.Pack(s.pack)
		l, _ := packs.Get(b)
		plain, _, _, err := seal.Open(ours, l[s.n])
		if pack, is := r.Where(s.id); !is || pack != s.pack || err != api.OK || seal.Name(ours, plain) != s.id {
			t.Error("an object is elsewhere:", pack, is, err)
		}
	}
	for _, id := range append(r.Packs(), api.Id{}, api.Id{1}) {
		if pack, is := r.Where(id); is || pack != (api.Id{}) {
			t.Error("what is none has a place:", pack, is)
		}
	}
	m.spots = append(m.spots, spot{api.Id{}, api.Id{}, 3})
	same(t, m.repo(t), m)
}

// --- P15.4

// kept are the ids of all objects of a telling.
func (m *telling) kept() []api.Id {
	var l []api.Id
	for _, s := range m.spots {
		l = append(l, s.id)
	}
	return l
}

func TestP154Rewrite(t *testing.T) {
	for seed := range 60 {
		r, m := three(t)
		chance := rand.New(rand.NewSource(int64(seed)))
		away, needed := r.Packs(), m.kept()
		chance.Shuffle(len(away), func(i, j int) { away[i], away[j] = away[j], away[i] })
		chance.Shuffle(len(needed), func(i, j int) { needed[i], needed[j] = needed[j], needed[i] })
		// Twins, and what is none.
		away = append(away[:chance.Intn(len(away)+1)], api.Id{3}, api.Id{3}, api.Id{})
		away = append(away, away[0])
		needed = append(needed[:chance.Intn(len(needed)+1)], api.Id{3})
		needed = append(needed, needed[0])
		packsWere, snaps := r.Packs(), r.Snaps()
		news, err := rewrites(t, r, m, away, needed)
		if err != api.OK {
			t.Fatal(err)
		}
		all(t, r, m)
		for _, id := range packsWere {
			if _, is := r.Pack(id); is == (slices.Contains(away, id) && !slices.Contains(news, id)) {
				t.Error("a pack is there:", is)
			}
		}
		if !slices.Equal(r.Snaps(), snaps) {
			t.Error("Snaps are others")
		}
		// The numbers go on as if nothing was.
		if _, _, err := backs(t, r, m, tree("new", "text"), ""); err != api.OK {
			t.Error(err)
		}
	}
}

// TestP154Same: whatever is rewritten, blobs stay as they are, in the order in which they are needed.
func TestP154Same(t *testing.T) {
	r, m := three(t)
	blobs := map[api.Id][]byte{}
	for _, s := range m.spots {
		blobs[s.id], _ = m.lies(s)
	}
	needed := m.kept()
	slices.Reverse(needed)
	news, err := rewrites(t, r, m, r.Packs(), needed)
	if err != api.OK {
		t.Fatal(err)
	}
	var got []api.Id
	for _, id := range news {
		b, _ := r.Pack(id)
		l, _ := packs.Get(b)
		if len(b) > 220 {
			t.Error("a pack of", len(b))
		}
		for _, x := range l {
			plain, _, _, _ := seal.Open(ours, x)
			id := seal.Name(ours, plain)
			got = append(got, id)
			if !bytes.Equal(x, blobs[id]) {
				t.Error("a blob is another one")
			}
		}
	}
	if !slices.Equal(got, needed) {
		t.Error("the order is another one")
	}
	all(t, r, m)
	// Nothing, of nothing.
	before := r.Put()
	for _, l := range [][2][]api.Id{{nil, nil}, {nil, needed}, {{{1}}, needed}, {{}, {}}} {
		if news, err := rewrites(t, r, m, l[0], l[1]); news != nil || err != api.OK || !bytes.Equal(r.Put(), before) {
			t.Error(news, err)
		}
	}
	// The same packs anew: they have the same ids.
	was := r.Packs()
	news, err = rewrites(t, r, m, was, needed)
	if slices.SortFunc(news, func(x, y api.Id) int { return bytes.Compare(x[:], y[:]) }); err != api.OK || !slices.Equal(news, was) {
		t.Error("the same packs have other ids:", err)
	}
	all(t, r, m)
	// All of it goes.
	if news, err := rewrites(t, r, m, was, nil); news != nil || err != api.OK || r.Packs() != nil || len(r.Snaps()) != 3 {
		t.Error(news, err)
	}
	all(t, r, m)
}

// TestP154Broken: a needed object's blob isn't there.
func TestP154Broken(t *testing.T) {
	_, first := three(t)
	for i, s := range first.spots {
		m := first.copied()
		m.lose(s.pack)
		r := m.repo(t)
		needed := m.kept()
		for _, away := range [][]api.Id{{s.pack}, r.Packs()} {
			before := r.Put()
			if news, err := rewrites(t, r, m, away, needed); news != nil || err != api.ErrBroken || !bytes.Equal(r.Put(), before) {
				t.Error("object", i, "tells", news, err)
			}
		}
		// Not needed, or not among those that go.
		lost := func(id api.Id) bool { x, _ := m.spot(id); return x.pack == s.pack }
		if _, err := rewrites(t, r, m, without(r.Packs(), s.pack), needed); err != api.OK {
			t.Error("object", i, "tells", err)
		}
		if _, err := rewrites(t, r, m, r.Packs(), slices.DeleteFunc(needed, lost)); err != api.OK {
			t.Error("object", i, "tells", err)
		}
		if slices.Contains(r.Packs(), s.pack) {
			t.Error("a pack that isn't there is one still")
		}
		all(t, r, m)
	}
	// Bytes that are no pack; a blob that there isn't.
	for _, b := range [][]byte{nil, {0}, {1}, []byte("no pack")} {
		m := first.copied()
		m.spots = append(m.spots, spot{api.Id{5}, packs.Id(b), 0})
		m.there[packs.Id(b)] = b
		r := m.repo(t)
		if news, err := rewrites(t, r, m, r.Packs(), append(m.kept(), api.Id{5})); news != nil || err != api.ErrBroken {
			t.Error("no pack tells", news, err)
		}
		if _, err := rewrites(t, r, m, r.Packs(), first.kept()); err != api.OK {
			t.Error("no pack, not needed, tells", err)
		}
	}
	for _, n := range []int{2, 3, 1023} {
		m := second(ours, usual)
		m.backup(nil, "")
		pack := m.spots[0].pack
		m.spots = append(m.spots, spot{api.Id{5}, pack, n})
		r := m.repo(t)
		if news, err := rewrites(t, r, m, []api.Id{pack}, []api.Id{{5}}); news != nil || err != api.ErrBroken {
			t.Error("no blob tells", news, err)
		}
	}
}

// without are all ids but one.
func without(l []api.Id, id api.Id) []api.Id {
	return slices.DeleteFunc(l, func(x api.Id) bool { return x == id })
}

// TestP154Blobs: blobs go as they are, whatever they are.
func TestP154Blobs(t *testing.T) {
	m := second(ours, usual)
	pack := m.lay(api.Id{5}, some(1, 41))
	again := m.lay(api.Id{6}, some(2, 300))
	m.spots = append(m.spots, spot{api.Id{7}, pack, 0})
	r := m.repo(t)
	news, err := rewrites(t, r, m, []api.Id{again, pack}, []api.Id{{7}, {6}, {5}})
	if err != api.OK || len(news) != 1 {
		t.Fatal(news, err)
	}
	if b, _ := r.Pack(news[0]); !bytes.Equal(b, packed(t, some(1, 41), some(2, 300), some(1, 41))) {
		t.Error("the pack has other bytes")
	}
	// One blob of two packs comes into a pack that is there, or into two of one id.
	m = second(ours, config(1, 1, 1, 100))
	pack = m.lay(api.Id{5}, some(1, 60))
	both := packed(t, some(1, 60), some(2, 41))
	m.there[packs.Id(both)] = both
	m.spots = append(m.spots, spot{api.Id{6}, packs.Id(both), 0})
	r = m.repo(t)
	if news, err := rewrites(t, r, m, []api.Id{packs.Id(both)}, []api.Id{{6}}); err != api.OK || !slices.Equal(news, []api.Id{pack}) {
		t.Error("a pack that is there:", news, err)
	}
	m.there[packs.Id(both)] = both
	m.spots[1] = spot{api.Id{6}, packs.Id(both), 0}
	r = m.repo(t)
	if news, err := rewrites(t, r, m, []api.Id{packs.Id(both), pack}, []api.Id{{6}, {5}}); err != api.OK || !slices.Equal(news, []api.Id{pack, pack}) {
		t.Error("two of one id:", news, err)
	}
}

// TestP154Big: a blob that no pack of this repo's holds.
func TestP154Big(t *testing.T) {
	_, m := three(t)
	m.c.Pack = 100
	r := m.repo(t)
	before := m.copied()
	if news, err := rewrites(t, r, m, r.Packs(), m.kept()); news != nil || err != api.ErrBig {
		t.Error(news, err)
	}
	all(t, r, before)
	// ErrBroken is told ahead of it.
	for _, s := range []int{0, len(m.spots) - 1} {
		m := m.copied()
		m.lose(m.spots[s].pack)
		if _, err := rewrites(t, m.repo(t), m, r.Packs(), m.kept()); err != api.ErrBroken {
			t.Error(err)
		}
	}
	var small []api.Id
	for _, s := range m.spots {
		if b, _ := m.lies(s); len(b) <= 98 {
			small = append(small, s.id)
		}
	}
	if news, err := rewrites(t, r, m, r.Packs(), small); err != api.OK || len(news) == 0 {
		t.Error(news, err)
	}
}

// --- P15.5

func TestP155Put(t *testing.T) {
	r, m := three(t)
	back, err := repo.Get(ours, m.c, r.Put())
	if err != api.OK {
		t.Fatal(err)
	}
	bare := m.copied()
	bare.there = map[api.Id][]byte{}
	all(t, back, bare)
	for _, id := range r.Packs() {
		b, _ := r.Pack(id)
		if err := back.Give(b); err != api.OK {
			t.Error("Give tells", err)
		}
	}
	all(t, back, m)
	// They go on alike.
	l := tree("a", "another", "b/c", "text")
	one, news, _ := r.Backup(l, "go on")
	two, also, _ := backs(t, back, m, l, "go on")
	if one != two || !slices.Equal(news, also) || !bytes.Equal(r.Put(), back.Put()) {
		t.Error("what is got goes on in another way")
	}
}

// TestP155Bytes: bytes by hand, with numbers at their edges.
func TestP155Bytes(t *testing.T) {
	for _, next := range []uint64{1, 127, 128, 1 << 62, math.MaxUint64} {
		for _, done := range []uint64{0, 1, 128, math.MaxUint64} {
			for n := range 4 {
				m := second(ours, usual)
				m.next, m.done = next, done
				for i := range n {
					m.snaps = append(m.snaps, api.Id{byte(i / 2), 7})
					m.spots = append(m.spots, spot{api.Id{byte(9 - i)}, api.Id{byte(i), 5}, 1023 - i})
				}
				r, err := repo.Get(ours, usual, m.put())
				if err != api.OK {
					t.Fatal(next, done, n, err)
				}
				same(t, r, m)
			}
		}
	}
}

// gets tells a fault unless Get tells an error, and nothing else.
func gets(t *testing.T, b []byte, want api.Errno, what ...any) {
	t.Helper()
	r, err := repo.Get(ours, usual, b)
	if err != want || (r == nil) != (want != api.OK) {
		t.Error(append(what, "is got and tells", r != nil, err, "not", want)...)
	}
}

func TestP155Wrong(t *testing.T) {
	_, m := three(t)
	b := m.put()
	gets(t, b, api.OK, "as it was put")
	for n := range b {
		gets(t, b[:n], api.ErrShort, n, "bytes of it")
	}
	gets(t, append(bytes.Clone(b), 0), api.ErrLeft, "a byte more")
	gets(t, append(bytes.Clone(b), b...), api.ErrLeft, "twice")
	long := bytes.Repeat([]byte{255}, 10)
	index := []byte{1, 0}
	for _, x := range []struct {
		what string
		b    []byte
		want api.Errno
	}{
		{"nothing", nil, api.ErrShort},
		{"an empty one", join([]byte{1, 0, 0}, index), api.OK},
		{"a next number that is no number", join(long, []byte{0, 0}, index), api.ErrForm},
		{"a next number with a nought behind it", join([]byte{129, 0, 0, 0}, index), api.ErrForm},
		{"how many backups that is no number", join([]byte{1}, long, []byte{0}, index), api.ErrForm},
		{"how many snapshots that is no number", join([]byte{1, 0}, long, index), api.ErrForm},
		{"an index that is no number of bytes", join([]byte{1, 0, 0}, long), api.ErrForm},
		{"a next number 0", join([]byte{0, 0, 0}, index), api.ErrForm},
		{"a next number 0, short", []byte{0, 0, 0, 1}, api.ErrShort},
		{"a next number 0, and more", join([]byte{0, 0, 0}, index, []byte{7}), api.ErrLeft},
		{"a next number 0, and a great index", join([]byte{0, 0, 0}, number(1<<24+1)), api.ErrBig},
		{"65537 snapshots", join([]byte{1, 0}, number(65537)), api.ErrForm},
		{"65537 snapshots, and next 0", join([]byte{0, 0}, number(65537)), api.ErrForm},
		{"very many snapshots", join([]byte{1, 0}, number(math.MaxUint64)), api.ErrForm},
		{"2^32 snapshots", join([]byte{1, 0}, number(1<<32)), api.ErrForm},
		{"65537 snapshots that are there", join([]byte{1, 0}, number(65537), make([]byte, 65537*32), index), api.ErrForm},
		{"65536 snapshots that aren't there", join([]byte{1, 0}, number(65536)), api.ErrShort},
		{"65536 snapshots, one short", join([]byte{1, 0}, number(65536), make([]byte, 65536*32-1)), api.ErrShort},
		{"65536 snapshots", join([]byte{1, 0}, number(65536), make([]byte, 65536*32), index), api.OK},
		{"an index of 2^24 bytes that aren't there", join([]byte{1, 0, 0}, number(1<<24)), api.ErrShort},
		{"an index of 2^24 bytes and one", join([]byte{1, 0, 0}, number(1<<24+1)), api.ErrBig},
		{"such an index that is there", join([]byte{1, 0, 0}, number(1<<24+1), make([]byte, 1<<24+1)), api.ErrBig},
		{"an index of 2^24 noughts", join([]byte{1, 0, 0}, number(1<<24), make([]byte, 1<<24)), api.ErrForm},
		{"2^24 noughts, and one", join([]byte{1, 0, 0}, number(1<<24), make([]byte, 1<<24+1)), api.ErrLeft},
		{"a very great index", join([]byte{1, 0, 0}, number(math.MaxUint64)), api.ErrBig},
		{"no index", []byte{1, 0, 0, 0}, api.ErrForm},
		{"an index that is short", []byte{1, 0, 0, 1, 1}, api.ErrForm},
		{"an index with a byte more", []byte{1, 0, 0, 2, 0, 0}, api.ErrForm},
		{"an index that is no number", join([]byte{1, 0, 0, 10}, long), api.ErrForm},
		{"an index with an N of 1024", join([]byte{1, 0, 0, 67, 1}, make([]byte, 64), number(1024)), api.ErrForm},
		{"an index with an N of 1023", join([]byte{1, 0, 0, 67, 1}, make([]byte, 64), number(1023)), api.OK},
		{"an index with twins", join([]byte{1, 0, 0, 131, 1, 2}, make([]byte, 130)), api.ErrForm},
		{"a short number of snapshots", []byte{1, 0, 128}, api.ErrShort},
		{"a short number of backups", []byte{1, 128}, api.ErrShort},
	} {
		gets(t, x.b, x.want, x.what)
	}
	for n := range 256 * 256 {
		b := []byte{byte(n >> 8), byte(n)}
		for range 3 {
			r, err := repo.Get(ours, usual, b)
			if err == api.OK && !bytes.Equal(r.Put(), b) || err != api.OK && r != nil {
				t.Error(b, "is got:", err)
			}
			b = append(b, 0, byte(n>>8))
		}
	}
}

// TestP155Key: another key has the same ids, and opens nothing.
func TestP155Key(t *testing.T) {
	_, m := three(t)
	key := ours
	m.key = other
	r := m.repo(t)
	for _, id := range m.snaps {
		restores(t, r, id, nil, "", api.ErrBroken)
		names(t, r, id, nil, api.ErrBroken)
	}
	all(t, r, m)
	// What it backs up itself it reads.
	snap, _, err := backs(t, r, m, tree("a", "some text"), "")
	if err != api.OK {
		t.Fatal(err)
	}
	reads(t, r, m, snap)
	m.key = key
	restores(t, m.repo(t), snap, nil, "", api.ErrBroken)
}

// TestP155Nil: of nil there is ErrArg, nothing, false; of one that New didn't make, too.
func TestP155Nil(t *testing.T) {
	for _, r := range []*repo.Repo{nil, {}, new(repo.Repo)} {
		if id, news, err := r.Backup(tree("a", "b"), ""); id != (api.Id{}) || news != nil || err != api.ErrArg {
			t.Error("Backup", id, news, err)
		}
		if _, _, err := r.Backup(tree("b", "", "a", strings.Repeat("x", 1<<20+1)), ""); err != api.ErrArg {
			t.Error("Backup", err)
		}
		if l, label, err := r.Restore(api.Id{}); l != nil || label != "" || err != api.ErrArg {
			t.Error("Restore", l, label, err)
		}
		if l, err := r.Objects(api.Id{}); l != nil || err != api.ErrArg {
			t.Error("Objects", l, err)
		}
		if l, err := r.Rewrite([]api.Id{{}}, []api.Id{{}}); l != nil || err != api.ErrArg {
			t.Error("Rewrite", l, err)
		}
		if err := r.Forget(api.Id{}); err != api.ErrArg {
			t.Error("Forget", err)
		}
		if err := r.Give(nil); err != api.ErrArg {
			t.Error("Give", err)
		}
		l, n := r.Count()
		if r.Snaps() != nil || r.Packs() != nil || l != nil || n != nil || r.Put() != nil {
			t.Error("there is something")
		}
		b, is := r.Pack(api.Id{})
		pack, was := r.Where(api.Id{})
		if b != nil || is || pack != (api.Id{}) || was || r.Lose(api.Id{}) {
			t.Error("there is something")
		}
	}
	gets(t, nil, api.ErrShort, "nil")
}

// --- P15.6, and what is so of all of them

// forest are trees that have much in common.
func forest(r *rand.Rand) []files.File {
	var l []files.File
	paths := []string{"a", "a!", "a/b", "a/b!", "a/b/c", "a/b0", "a0", "b", "b/a", "b/b/b/b", "c"}
	texts := []string{"", "x", "some text", "some other text", "0123456789abcdef0123456789abcdef", "some text"}
	for _, path := range paths {
		f := file(path, texts[r.Intn(len(texts))])
		if r.Intn(2) == 0 && files.Check(append(slices.Clone(l), f)) == api.OK {
			l = append(l, f)
		}
	}
	return l
}

// any is some id that is known, or not.
func (m *telling) any(r *rand.Rand) api.Id {
	l := append(append(m.kept(), m.snaps...), api.Id{1})
	for id := range m.there {
		l = append(l, id)
	}
	slices.SortFunc(l, func(x, y api.Id) int { return bytes.Compare(x[:], y[:]) })
	return l[r.Intn(len(l))]
}

// several are some of a list, in another order, now and then twice.
func several(r *rand.Rand, l []api.Id) []api.Id {
	var some []api.Id
	for range r.Intn(len(l) + 1) {
		some = append(some, l[r.Intn(len(l))])
	}
	return some
}

// history does by chance what may be done, and holds all of it against the second telling; how often what was told.
func history(t *testing.T, seed int64, steps int) map[string]int {
	t.Helper()
	chance := rand.New(rand.NewSource(seed))
	c := config(1+chance.Intn(4), 4+chance.Intn(12), 1+chance.Intn(3), 100+chance.Intn(700))
	r, m := fresh(t, c)
	var ever [][]byte // bytes of packs that were there
	how := map[string]int{}
	for range steps {
		what, err := "", api.OK
		switch chance.Intn(10) {
		case 0, 1, 2, 3:
			var news []api.Id
			l := forest(chance)
			_, news, err = backs(t, r, m, l, "label")
			what = "backup"
			for _, id := range news {
				b, _ := r.Pack(id)
				ever = append(ever, b)
			}
			if err == api.OK {
				snaps := r.Snaps()
				_, _, is := m.restore(snaps[len(snaps)-1])
				how["restored "+strconv.Itoa(int(is))]++
			}
		case 4:
			what = "forget"
			id := m.any(chance)
			if err = r.Forget(id); err != m.forget(id) {
				t.Error("Forget tells", err)
			}
		case 5:
			id := m.any(chance)
			if r.Lose(id) != m.lose(id) {
				t.Error("Lose tells another thing")
			}
		case 6:
			what = "give"
			if len(ever) > 0 {
				b := ever[chance.Intn(len(ever))]
				if err = r.Give(b); err != m.give(b) {
					t.Error("Give tells", err)
				}
			}
		case 7:
			what = "rewrite"
			var news []api.Id
			l, _ := m.count()
			news, err = rewrites(t, r, m, several(chance, append(l, api.Id{1})), append(several(chance, append(m.kept(), api.Id{1})), several(chance, append(m.kept(), api.Id{1}))...))
			for _, id := range news {
				b, _ := r.Pack(id)
				ever = append(ever, b)
			}
		case 8:
			what = "rewrite all"
			l, _ := m.count()
			_, err = rewrites(t, r, m, l, m.kept())
		default:
			if chance.Intn(3) == 0 {
				r = m.repo(t)
			}
			what = "read"
			id := m.any(chance)
			if len(m.snaps) > 0 && chance.Intn(3) > 0 {
				id = m.snaps[chance.Intn(len(m.snaps))]
				_, _, err = m.restore(id)
			}
			reads(t, r, m, id)
		}
		same(t, r, m)
		how[what+" "+strconv.Itoa(int(err))]++
		if t.Failed() {
			t.Fatal("seed", seed)
		}
	}
	all(t, r, m)
	for what, n := range m.twice {
		how[what] = n
	}
	return how
}

// TestP156History: whatever is done, all is as the second telling tells it.
func TestP156History(t *testing.T) {
	how := map[string]int{}
	for seed := range 45 {
		for what, n := range history(t, int64(seed), 40) {
			how[what] += n
		}
	}
	for _, what := range []string{"backup 0", "backup 13", "forget 0", "forget 32", "give 0", "give 32", "give 33", "rewrite 0", "rewrite 37", "rewrite all 0", "rewrite all 37", "restored 0", "restored 37", "read 0", "read 32", "read 37"} {
		if how[what] < 5 {
			t.Error(what, "comes up", how[what], "times:", how)
		}
	}
}

// TestP156Whole: while nothing is lost, and what snapshots need is kept, all of them are restored as they were.
func TestP156Whole(t *testing.T) {
	for seed := range 12 {
		chance := rand.New(rand.NewSource(int64(seed)))
		r, _ := fresh(t, config(2, 9, 2, 700))
		trees := map[api.Id][]files.File{}
		for range 25 {
			switch chance.Intn(5) {
			case 0:
				for id := range trees {
					if r.Forget(id) != api.OK {
						t.Error("a snapshot is none")
					}
					delete(trees, id)
					break
				}
			case 1:
				var needed []api.Id
				for id := range trees {
					l, err := r.Objects(id)
					if err != api.OK {
						t.Error("Objects tells", err)
					}
					needed = append(needed, l...)
				}
				if _, err := r.Rewrite(several(chance, append(r.Packs(), api.Id{})), needed); err != api.OK {
					t.Error("Rewrite tells", err)
				}
			default:
				l := forest(chance)
				had := len(kept(r))
				snap, _, err := r.Backup(l, "")
				if err != api.OK {
					t.Fatal("Backup tells", err)
				}
				trees[snap] = l
				if len(kept(r)) == had {
					t.Error("no new object")
				}
				had = len(kept(r))
				again, news, err := r.Backup(l, "")
				if err != api.OK || len(news) != 1 || len(kept(r)) != had+1 || again == snap {
					t.Error("the same tree again makes", news, err, len(kept(r))-had)
				}
				if pack, is := r.Where(again); !is || pack != news[0] {
					t.Error("the one new object isn't the snapshot")
				}
				trees[again] = l
			}
			for id, l := range trees {
				restores(t, r, id, l, "", api.OK)
			}
		}
	}
}

// kept are a repo's objects, one for each that Count counts.
func kept(r *repo.Repo) []struct{} {
	var l []struct{}
	_, n := r.Count()
	for _, x := range n {
		l = append(l, make([]struct{}, x)...)
	}
	return l
}

// spill writes over a list, and whatever room is behind it.
func spill[T any](l []T) {
	clear(l[:cap(l)])
}

// TestAnswersInNewMemory: whoever changes what is told changes nothing else.
func TestAnswersInNewMemory(t *testing.T) {
	r, m := three(t)
	for range 2 {
		spill(r.Snaps())
		spill(r.Packs())
		l, n := r.Count()
		spill(l)
		spill(n)
		spill(r.Put())
		for _, id := range m.snaps {
			ids, _ := r.Objects(id)
			spill(ids)
			tree, _, _ := r.Restore(id)
			for i, f := range tree {
				spill(f.Bytes)
				for _, g := range tree[i+1:] {
					if len(g.Bytes) > 0 && bytes.Equal(g.Bytes, make([]byte, len(g.Bytes))) {
						t.Error("two files share their bytes")
					}
				}
			}
			spill(tree)
		}
		for _, id := range r.Packs() {
			b, _ := r.Pack(id)
			spill(b)
		}
		all(t, r, m)
	}
	snap, news, _ := r.Backup(tree("new", "text"), "")
	m.backup(tree("new", "text"), "")
	spill(news)
	all(t, r, m)
	reads(t, r, m, snap)
	news, _ = r.Rewrite(r.Packs(), m.kept())
	l, _ := m.count()
	m.rewrite(l, m.kept())
	spill(news)
	all(t, r, m)
}

// TestStays: what is handed in stays as it was, and isn't kept.
func TestStays(t *testing.T) {
	r, m := fresh(t, usual)
	l := make([]files.File, 0, 9)
	for i, f := range tree("a!", "some text", "a/b", "more text", "a/c", "") {
		room := append(make([]byte, 0, 40), f.Bytes...)
		l = append(l, files.File{Path: f.Path, Bytes: room})
		if i == 1 {
			l[1].Bytes = l[1].Bytes[:4]
		}
	}
	whole := func() []byte {
		var b []byte
		for _, f := range l[:cap(l)] {
			b = join(b, []byte(f.Path), []byte{0}, f.Bytes[:cap(f.Bytes)])
		}
		return b
	}
	was := whole()
	snap, _, _ := backs(t, r, m, l, "")
	if !bytes.Equal(whole(), was) {
		t.Error("Backup changes what it is handed")
	}
	tree, _, _ := m.restore(snap)
	for _, f := range l {
		spill(f.Bytes)
	}
	spill(l)
	restores(t, r, snap, tree, "", api.OK)
	// Bytes of a pack, lists of ids, bytes of a repo.
	b, _ := r.Pack(r.Packs()[0])
	r.Lose(r.Packs()[0])
	given := append(make([]byte, 0, len(b)+9), b...)
	if err := r.Give(given); err != api.OK || !bytes.Equal(given[:cap(given)], join(b, make([]byte, cap(given)-len(b)))) {
		t.Error("Give tells", err, "or changes what it is handed")
	}
	spill(given)
	all(t, r, m)
	away, needed := r.Packs(), append(m.kept(), m.kept()...)
	slices.Reverse(needed)
	awayWas, neededWas := slices.Clone(away), slices.Clone(needed)
	rewrites(t, r, m, away, needed)
	if !slices.Equal(away, awayWas) || !slices.Equal(needed, neededWas) {
		t.Error("Rewrite changes what it is handed")
	}
	spill(away)
	spill(needed)
	all(t, r, m)
	put := r.Put()
	putWas := bytes.Clone(put)
	back, err := repo.Get(ours, usual, put)
	if err != api.OK || !bytes.Equal(put, putWas) {
		t.Error("Get tells", err, "or changes what it is handed")
	}
	spill(put)
	if !bytes.Equal(back.Put(), putWas) {
		t.Error("Get keeps what it is handed")
	}
}

// TestAnswersStayAsTheyWere: whatever is done afterwards.
func TestAnswersStayAsTheyWere(t *testing.T) {
	r, m := three(t)
	snaps, list, put := r.Snaps(), r.Packs(), r.Put()
	b, _ := r.Pack(list[0])
	ids, _ := r.Objects(snaps[0])
	l, _, _ := r.Restore(snaps[0])
	snapsWas, listWas, putWas, bWas, idsWas := slices.Clone(snaps), slices.Clone(list), bytes.Clone(put), bytes.Clone(b), slices.Clone(ids)
	want, _, _ := m.restore(snaps[0])
	r.Forget(snaps[1])
	r.Backup(tree("new", "text"), "")
	r.Rewrite(list, m.kept())
	r.Lose(r.Packs()[0])
	r.Forget(snaps[0])
	r.Backup(tree("newer", "text"), "")
	if !slices.Equal(snaps, snapsWas) || !slices.Equal(list, listWas) || !bytes.Equal(put, putWas) || !bytes.Equal(b, bWas) || !slices.Equal(ids, idsWas) || !files.Same(l, want) {
		t.Error("an answer has changed")
	}
}

// TestNoStateOfItsOwn: repos know nothing of each other; the same calls have the same answers.
func TestNoStateOfItsOwn(t *testing.T) {
	one, m := fresh(t, usual)
	two, n := fresh(t, usual)
	three, err := repo.New(other, usual)
	if err != api.OK {
		t.Fatal(err)
	}
	l := tree("a", "some text", "b", "more")
	backs(t, one, m, l, "")
	same(t, two, n)
	backs(t, two, n, l, "")
	if !bytes.Equal(one.Put(), two.Put()) {
		t.Error("the same calls have other answers")
	}
	three.Backup(l, "")
	for _, id := range one.Snaps() {
		restores(t, three, id, nil, "", api.ErrNone)
	}
	one.Lose(one.Packs()[0])
	one.Forget(one.Snaps()[0])
	all(t, two, n)
	x, _, _ := two.Backup(tree("c", "d"), "e")
	y, _, _ := n.backup(tree("c", "d"), "e")
	if x != y {
		t.Error("another repo's changes are seen")
	}
	// A piece of one kind isn't one of another: nothing of what is kept tells a list from bytes that are like it.
	if p := named(t, objects.Object{Kind: objects.Piece}); p == named(t, objects.Object{Kind: objects.List}) {
		t.Error("two objects have one id")
	}
}
