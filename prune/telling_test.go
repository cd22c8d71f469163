package prune_test

import (
	"bytes"
	"encoding/binary"
	"encoding/hex"
	"math/big"
	"slices"
	"strconv"
	"strings"
	"testing"

	"bailee/api"
	"bailee/cutter"
	"bailee/objects"
	"bailee/packs"
	"bailee/prune"
	"bailee/repo"
	"bailee/seal"
)

// ours is the key of all repos here.
var ours = api.Key{1, 2, 3}

// config is how repos here cut, with packs of so many bytes.
func config(pack int) repo.Config {
	return repo.Config{Cut: cutter.Config{Least: 4, Most: 8, Bits: 1}, Pack: pack}
}

// spot is an object's place.
type spot struct {
	id, pack api.Id
	n        int
}

// making is a repo that no backup makes.
type making struct {
	t     *testing.T
	pack  int // bytes of one
	snaps []api.Id
	spots []spot
	there map[api.Id][]byte
}

// bare has nothing yet.
func bare(t *testing.T) *making {
	return &making{t: t, pack: 1000, there: map[api.Id][]byte{}}
}

// named is what an object is known by, and its blob.
func (m *making) named(x objects.Object) (api.Id, []byte) {
	m.t.Helper()
	plain, err := objects.Put(x)
	if err != api.OK {
		m.t.Fatal("objects.Put tells", err)
	}
	b, err := seal.Seal(ours, x.Kind, uint64(len(m.spots)), plain)
	if err != api.OK {
		m.t.Fatal("seal.Seal tells", err)
	}
	return seal.Name(ours, plain), b
}

// lay lets objects that have no place be there in a pack of their own; the pack.
func (m *making) lay(l ...objects.Object) api.Id {
	m.t.Helper()
	var ids []api.Id
	var blobs [][]byte
	for _, x := range l {
		id, b := m.named(x)
		if !slices.Contains(ids, id) && !slices.ContainsFunc(m.spots, func(s spot) bool { return s.id == id }) {
			ids, blobs = append(ids, id), append(blobs, b)
		}
	}
	b, err := packs.Put(blobs)
	if err != api.OK {
		m.t.Fatal("packs.Put tells", err)
	}
	pack := packs.Id(b)
	m.there[pack] = b
	m.place(pack, ids...)
	return pack
}

// place lets objects be in a pack, of which nothing else is known.
func (m *making) place(pack api.Id, ids ...api.Id) {
	for n, id := range ids {
		m.spots = append(m.spots, spot{id, pack, n})
	}
}

// tree are the objects of one that has a file for each list of pieces; the snapshot is the last one.
func (m *making) tree(label string, files ...[]api.Id) []objects.Object {
	m.t.Helper()
	var l []objects.Object
	dir := objects.Object{Kind: objects.Dir}
	for i, pieces := range files {
		x := objects.Object{Kind: objects.List, Size: uint64(len(pieces)), Ids: pieces}
		id, _ := m.named(x)
		l = append(l, x)
		dir.Entries = append(dir.Entries, objects.Entry{Name: string(rune('a' + i)), Id: id})
	}
	top, _ := m.named(dir)
	return append(l, dir, objects.Object{Kind: objects.Snap, Size: 1, Ids: []api.Id{top}, Label: label})
}

// snap lets a tree be there, in a pack of its own, with a snapshot; the snapshot's id, and the pack.
func (m *making) snap(label string, files ...[]api.Id) (api.Id, api.Id) {
	m.t.Helper()
	l := m.tree(label, files...)
	pack := m.lay(l...)
	id, _ := m.named(l[len(l)-1])
	m.snaps = append(m.snaps, id)
	return id, pack
}

// repo is the repo that is so.
func (m *making) repo() *repo.Repo {
	m.t.Helper()
	sorted := slices.Clone(m.spots)
	slices.SortFunc(sorted, func(a, b spot) int { return strings.Compare(text(a.id), text(b.id)) })
	index := binary.AppendUvarint(nil, uint64(len(sorted)))
	for _, s := range sorted {
		index = append(append(index, s.id[:]...), s.pack[:]...)
		index = binary.AppendUvarint(index, uint64(s.n))
	}
	b := binary.AppendUvarint([]byte{100, 7}, uint64(len(m.snaps)))
	for _, id := range m.snaps {
		b = append(b, id[:]...)
	}
	b = append(binary.AppendUvarint(b, uint64(len(index))), index...)
	r, err := repo.Get(ours, config(m.pack), b)
	if err != api.OK {
		m.t.Fatal("repo.Get tells", err)
	}
	for _, b := range m.there {
		if err := r.Give(b); err != api.OK {
			m.t.Fatal("Give tells", err)
		}
	}
	return r
}

// text are an id's bytes.
func text(id api.Id) string { return string(id[:]) }

// sorted are ids, rising.
func sorted(l ...api.Id) []api.Id {
	l = slices.Clone(l)
	slices.SortFunc(l, func(a, b api.Id) int { return strings.Compare(text(a), text(b)) })
	return l
}

// short is a text of ids.
func short(l []api.Id) string {
	s := strconv.Itoa(len(l)) + ":"
	for _, id := range l[:min(len(l), 20)] {
		s += " " + hex.EncodeToString(id[:4])
	}
	return s
}

// joined are ids of lists, rising.
func joined(l ...[]api.Id) []api.Id { return sorted(slices.Concat(l...)...) }

// ids are so many made-up ones.
func ids(of byte, n int) []api.Id {
	var l []api.Id
	for i := range n {
		l = append(l, api.Id{byte(i), of, byte(i >> 8), 1})
	}
	return l
}

// --- the promises' words, told a second time

// spots are all objects' places, as a repo's bytes tell them.
func spots(t *testing.T, r *repo.Repo) []spot {
	t.Helper()
	b := r.Put()
	number := func() int {
		n, k := binary.Uvarint(b)
		if k <= 0 {
			t.Fatal("Put is cut")
		}
		b = b[k:]
		return int(n)
	}
	id := func() api.Id {
		x := api.Id(b[:32])
		b = b[32:]
		return x
	}
	number()
	number()
	for range number() {
		id()
	}
	number()
	var l []spot
	for range number() {
		l = append(l, spot{id(), id(), number()})
	}
	return l
}

// needs are what Needed must tell.
func needs(r *repo.Repo) ([]api.Id, api.Errno) {
	var all []api.Id
	for _, snap := range r.Snaps() {
		l, err := r.Objects(snap)
		if err != api.OK {
			return nil, err
		}
		all = append(all, l...)
	}
	return slices.Compact(sorted(all...)), api.OK
}

// plans are what Plan must tell.
func plans(t *testing.T, r *repo.Repo, percent int) ([]api.Id, api.Errno) {
	t.Helper()
	if percent < 0 || percent > 100 {
		return nil, api.ErrArg
	}
	needed, err := needs(r)
	if err != api.OK {
		return nil, err
	}
	all, some := map[api.Id]int64{}, map[api.Id]int64{}
	for _, s := range spots(t, r) {
		all[s.pack]++
		if _, is := slices.BinarySearchFunc(needed, s.id, func(a, b api.Id) int { return strings.Compare(text(a), text(b)) }); is {
			some[s.pack]++
		}
	}
	var l []api.Id
	for pack, n := range all {
		if k := some[pack]; k == 0 || big.NewRat(k, n).Cmp(big.NewRat(int64(percent), 100)) < 0 {
			l = append(l, pack)
		}
	}
	return sorted(l...), api.OK
}

// breaks are what Broken must tell.
func breaks(r *repo.Repo) []api.Id {
	var l []api.Id
	for _, snap := range r.Snaps() {
		if _, _, err := r.Restore(snap); err != api.OK {
			l = append(l, snap)
		}
	}
	return l
}

// misses are what Missing must tell.
func misses(t *testing.T, r *repo.Repo) []api.Id {
	t.Helper()
	var wanted []api.Id
	for _, snap := range r.Snaps() {
		l, err := r.Objects(snap)
		if wanted = append(wanted, l...); err != api.OK {
			wanted = append(wanted, snap)
		}
	}
	var l []api.Id
	for _, s := range spots(t, r) {
		if _, there := r.Pack(s.pack); !there && slices.Contains(wanted, s.id) {
			l = append(l, s.pack)
		}
	}
	return slices.Compact(sorted(l...))
}

// state is all of a repo, as it is told apart.
type state struct {
	bytes []byte
	packs map[api.Id][]byte
}

// stateOf is how a repo is.
func stateOf(r *repo.Repo) state {
	s := state{r.Put(), map[api.Id][]byte{}}
	for _, id := range r.Packs() {
		if b, is := r.Pack(id); is {
			s.packs[id] = b
		}
	}
	return s
}

// stays tells a fault unless a repo is so.
func (s state) stays(t *testing.T, r *repo.Repo, what ...any) {
	t.Helper()
	now := stateOf(r)
	if !bytes.Equal(now.bytes, s.bytes) || len(now.packs) != len(s.packs) {
		t.Error(append(what, "is another repo")...)
		return
	}
	for id, b := range s.packs {
		if got, is := now.packs[id]; !is || !bytes.Equal(got, b) {
			t.Errorf("%v: pack %x is another one, or gone", what, id[:4])
		}
	}
}

// copied is a repo that is as another one, and of which nothing hangs on it.
func copied(t *testing.T, r *repo.Repo, pack int) *repo.Repo {
	t.Helper()
	x, err := repo.Get(ours, config(pack), r.Put())
	if err != api.OK {
		t.Fatal("repo.Get tells", err)
	}
	for _, b := range stateOf(r).packs {
		if err := x.Give(b); err != api.OK {
			t.Fatal("Give tells", err)
		}
	}
	return x
}

// is tells a fault unless ids, and an error, are as they must be.
func is(t *testing.T, what string, got []api.Id, err api.Errno, want []api.Id, wanted api.Errno) {
	t.Helper()
	if !slices.Equal(got, want) || err != wanted {
		t.Errorf("%s tells %s, %v, not %s, %v", what, short(got), err, short(want), wanted)
	}
}

// asks tells a fault unless all that doesn't change a repo is told as it must be.
func asks(t *testing.T, r *repo.Repo, percents ...int) {
	t.Helper()
	was := stateOf(r)
	want, wanted := needs(r)
	got, err := prune.Needed(r)
	is(t, "Needed", got, err, want, wanted)
	for _, percent := range percents {
		want, wanted = plans(t, r, percent)
		got, err = prune.Plan(r, percent)
		is(t, "Plan", got, err, want, wanted)
	}
	is(t, "Broken", prune.Broken(r), api.OK, breaks(r), api.OK)
	is(t, "Missing", prune.Missing(r), api.OK, misses(t, r), api.OK)
	was.stays(t, r, "what is asked")
}

// prunes tells a fault unless Prune does what it must; its answer.
func prunes(t *testing.T, r *repo.Repo, pack, percent int) ([]api.Id, api.Errno) {
	t.Helper()
	x := copied(t, r, pack)
	was := stateOf(r)
	worth, wanted := plans(t, r, percent)
	needed, _ := needs(r)
	var want []api.Id
	if wanted == api.OK {
		want, wanted = x.Rewrite(worth, needed)
	}
	got, err := prune.Prune(r, percent)
	is(t, "Prune", got, err, want, wanted)
	stateOf(x).stays(t, r, "Prune of", percent)
	if err != api.OK {
		was.stays(t, r, "Prune that tells", err)
	}
	asks(t, r, 0, percent, 100)
	return got, err
}
