package repo_test

import (
	"bytes"
	"cmp"
	"encoding/binary"
	"slices"
	"strings"
	"testing"

	"bailee/api"
	"bailee/cutter"
	"bailee/files"
	"bailee/objects"
	"bailee/packs"
	"bailee/repo"
	"bailee/seal"
)

// spot is an object's place.
type spot struct {
	id, pack api.Id
	n        int
}

// telling is a second telling of a repo, worked out from the words.
type telling struct {
	key        api.Key
	c          repo.Config
	next, done uint64
	snaps      []api.Id
	spots      []spot
	there      map[api.Id][]byte
	twice      map[string]int      // what ErrTwice was told of
	tried      map[api.Id]struct{} // packs that were put, or might have been
}

// second is one of a repo that is new.
func second(key api.Key, c repo.Config) *telling {
	return &telling{key: key, c: c, next: 1, there: map[api.Id][]byte{}, twice: map[string]int{}, tried: map[api.Id]struct{}{}}
}

// copied is a telling that nothing of this one hangs on.
func (m *telling) copied() *telling {
	x := *m
	x.snaps, x.spots = slices.Clone(m.snaps), slices.Clone(m.spots)
	x.there = map[api.Id][]byte{}
	for id, b := range m.there {
		x.there[id] = bytes.Clone(b)
	}
	return &x
}

// spot is where an object is.
func (m *telling) spot(id api.Id) (spot, bool) {
	for _, s := range m.spots {
		if s.id == id {
			return s, true
		}
	}
	return spot{}, false
}

// lies is the blob that lies at a place, if there is one.
func (m *telling) lies(s spot) ([]byte, bool) {
	b, is := m.there[s.pack]
	if !is {
		return nil, false
	}
	l, err := packs.Get(b)
	if err != api.OK || s.n >= len(l) {
		return nil, false
	}
	return l[s.n], true
}

// row is an object of a tree, with its id and bytes.
type row struct {
	id    api.Id
	kind  byte
	plain []byte
}

// made are a tree's objects, in order, till one may not be: then ErrBig stands behind them.
func (m *telling) made(l []files.File, label string) ([]row, api.Errno) {
	var rows []row
	failed := api.OK
	one := func(x objects.Object) api.Id {
		plain, err := objects.Put(x)
		if err == api.OK {
			_, err = seal.Seal(m.key, x.Kind, 0, plain)
		}
		if failed == api.OK && err != api.OK {
			failed = api.ErrBig
		}
		if failed != api.OK {
			return api.Id{}
		}
		id := seal.Name(m.key, plain)
		rows = append(rows, row{id, x.Kind, plain})
		return id
	}
	var top func(l []files.File) api.Id
	top = func(l []files.File) api.Id {
		// What stands behind each first name; behind a file's nothing does.
		behind := map[string][]files.File{}
		var names []string
		for _, f := range l {
			name, rest, _ := strings.Cut(f.Path, "/")
			if _, is := behind[name]; !is {
				names = append(names, name)
			}
			behind[name] = append(behind[name], files.File{Path: rest, Bytes: f.Bytes})
		}
		slices.Sort(names)
		x := objects.Object{Kind: objects.Dir}
		for _, name := range names {
			e := objects.Entry{Name: name, Dir: behind[name][0].Path != ""}
			if e.Dir {
				e.Id = top(behind[name])
			} else {
				list := objects.Object{Kind: objects.List, Size: uint64(len(behind[name][0].Bytes))}
				pieces, _ := cutter.Pieces(behind[name][0].Bytes, m.c.Cut)
				for _, p := range pieces {
					list.Ids = append(list.Ids, one(objects.Object{Kind: objects.Piece, Bytes: p}))
				}
				e.Id = one(list)
			}
			x.Entries = append(x.Entries, e)
		}
		return one(x)
	}
	one(objects.Object{Kind: objects.Snap, Size: m.done + 1, Ids: []api.Id{top(l)}, Label: label})
	return rows, failed
}

// backup does what Backup must, and tells its answer.
func (m *telling) backup(l []files.File, label string) (api.Id, []api.Id, api.Errno) {
	if err := files.Check(l); err != api.OK {
		return api.Id{}, nil, err
	}
	rows, big := m.made(l, label)
	var ids []api.Id
	var blobs [][]byte
	fresh := map[api.Id][]byte{}
	for _, x := range rows {
		was, is := fresh[x.id]
		s, placed := m.spot(x.id)
		if placed {
			var err api.Errno
			if was, is = m.lies(s); is {
				was, _, _, err = seal.Open(m.key, was)
				is = err == api.OK
			}
		}
		if is && string(was) != string(x.plain) {
			if placed {
				m.twice["one that has a place"]++
			} else {
				m.twice["another new one"]++
			}
			return api.Id{}, nil, api.ErrTwice
		}
		if placed || is {
			continue
		}
		blob, _ := seal.Seal(m.key, x.kind, m.next+uint64(len(ids)), x.plain)
		ids, blobs = append(ids, x.id), append(blobs, blob)
		fresh[x.id] = x.plain
	}
	if big != api.OK {
		return api.Id{}, nil, big
	}
	after := m.copied()
	news, err := after.hold(ids, blobs)
	if err != api.OK {
		return api.Id{}, nil, err
	}
	after.next += uint64(len(ids))
	after.done++
	snap := rows[len(rows)-1].id
	after.forget(snap)
	after.snaps = append(after.snaps, snap)
	*m = *after
	return snap, news, api.OK
}

// hold lets blobs be there, in new packs; beside an error it may be there in part.
func (m *telling) hold(ids []api.Id, blobs [][]byte) ([]api.Id, api.Errno) {
	var sizes []int
	for _, b := range blobs {
		sizes = append(sizes, len(b))
	}
	filled, err := packs.Fill(sizes, m.c.Pack)
	if err != api.OK {
		return nil, api.ErrBig
	}
	var news []api.Id
	for _, l := range filled {
		var in [][]byte
		for _, i := range l {
			in = append(in, blobs[i])
		}
		b, err := packs.Put(in)
		if err != api.OK {
			return nil, api.ErrBig
		}
		id := packs.Id(b)
		m.tried[id] = struct{}{}
		if was, is := m.there[id]; is && string(was) != string(b) {
			m.twice["a pack"]++
			return nil, api.ErrTwice
		}
		m.there[id] = b
		for n, i := range l {
			m.spots = append(m.spots, spot{ids[i], id, n})
		}
		news = append(news, id)
	}
	return news, api.OK
}

// object reads one, as the words say it.
func (m *telling) object(id api.Id) (objects.Object, api.Errno) {
	s, is := m.spot(id)
	if !is {
		return objects.Object{}, api.ErrNone
	}
	blob, is := m.lies(s)
	if !is {
		return objects.Object{}, api.ErrBroken
	}
	plain, kind, _, err := seal.Open(m.key, blob)
	if err != api.OK {
		return objects.Object{}, api.ErrBroken
	}
	x, err := objects.Get(plain)
	if seal.Name(m.key, plain) != id || err != api.OK || x.Kind != kind {
		return objects.Object{}, api.ErrBroken
	}
	return x, api.OK
}

// gone is a snapshot that was gone through.
type gone struct {
	first api.Errno // of reading
	odd   bool      // an object is of another kind, or a file hasn't its size
	tree  []files.File
	label string
	ids   []api.Id
}

// through goes through a snapshot; pieces are read, or just told.
func (m *telling) through(snap api.Id, pieces bool) gone {
	var g gone
	get := func(id api.Id, kind byte) (objects.Object, bool) {
		if !slices.Contains(g.ids, id) {
			g.ids = append(g.ids, id)
		}
		if kind == objects.Piece && !pieces {
			return objects.Object{}, true
		}
		x, err := m.object(id)
		if err != api.OK {
			g.first = cmp.Or(g.first, err)
			return x, false
		}
		g.odd = g.odd || x.Kind != kind
		return x, x.Kind == kind
	}
	var dir func(id api.Id, front string)
	dir = func(id api.Id, front string) {
		x, ok := get(id, objects.Dir)
		if !ok {
			return
		}
		for _, e := range x.Entries {
			if e.Dir {
				dir(e.Id, front+e.Name+"/")
				continue
			}
			list, _ := get(e.Id, objects.List)
			var b []byte
			if list.Kind == objects.List {
				for _, id := range list.Ids {
					p, _ := get(id, objects.Piece)
					b = append(b, p.Bytes...)
				}
				g.odd = g.odd || pieces && uint64(len(b)) != list.Size
			}
			g.tree = append(g.tree, files.File{Path: front + e.Name, Bytes: b})
		}
	}
	if x, ok := get(snap, objects.Snap); ok {
		g.label = x.Label
		dir(x.Ids[0], "")
	}
	return g
}

// restore tells what Restore must.
func (m *telling) restore(snap api.Id) ([]files.File, string, api.Errno) {
	if !slices.Contains(m.snaps, snap) {
		return nil, "", api.ErrNone
	}
	g := m.through(snap, true)
	if g.first != api.OK {
		return nil, "", g.first
	}
	slices.SortFunc(g.tree, func(x, y files.File) int { return cmp.Compare(x.Path, y.Path) })
	if g.odd || files.Check(g.tree) != api.OK {
		return nil, "", api.ErrBroken
	}
	return g.tree, g.label, api.OK
}

// objects tells what Objects must.
func (m *telling) objects(snap api.Id) ([]api.Id, api.Errno) {
	if !slices.Contains(m.snaps, snap) {
		return nil, api.ErrNone
	}
	g := m.through(snap, false)
	switch {
	case g.first != api.OK:
		return nil, g.first
	case g.odd:
		return nil, api.ErrBroken
	}
	return g.ids, api.OK
}

// forget does what Forget must.
func (m *telling) forget(snap api.Id) api.Errno {
	var left []api.Id
	for _, id := range m.snaps {
		if id != snap {
			left = append(left, id)
		}
	}
	if len(left) == len(m.snaps) {
		return api.ErrNone
	}
	m.snaps = left
	return api.OK
}

// count tells what Count must.
func (m *telling) count() ([]api.Id, []int) {
	var l []api.Id
	for _, s := range m.spots {
		if !slices.Contains(l, s.pack) {
			l = append(l, s.pack)
		}
	}
	slices.SortFunc(l, func(x, y api.Id) int { return bytes.Compare(x[:], y[:]) })
	counts := make([]int, len(l))
	for i, id := range l {
		for _, s := range m.spots {
			if s.pack == id {
				counts[i]++
			}
		}
	}
	return l, counts
}

// lose does what Lose must.
func (m *telling) lose(id api.Id) bool {
	_, is := m.there[id]
	delete(m.there, id)
	return is
}

// give does what Give must.
func (m *telling) give(b []byte) api.Errno {
	id := packs.Id(b)
	l, _ := m.count()
	if !slices.Contains(l, id) {
		return api.ErrNone
	}
	if _, is := m.there[id]; is {
		return api.ErrTwice
	}
	m.there[id] = bytes.Clone(b)
	return api.OK
}

// rewrite does what Rewrite must, and tells its answer.
func (m *telling) rewrite(away, needed []api.Id) ([]api.Id, api.Errno) {
	var ids []api.Id
	var blobs [][]byte
	for i, id := range needed {
		s, is := m.spot(id)
		if !is || !slices.Contains(away, s.pack) || slices.Contains(needed[:i], id) {
			continue
		}
		b, is := m.lies(s)
		if !is {
			return nil, api.ErrBroken
		}
		ids, blobs = append(ids, id), append(blobs, b)
	}
	// Done twice: what may be is asked while all is there still.
	if _, err := m.copied().hold(ids, blobs); err != api.OK {
		return nil, err
	}
	m.spots = slices.DeleteFunc(m.spots, func(s spot) bool { return slices.Contains(away, s.pack) })
	for _, id := range away {
		delete(m.there, id)
	}
	return m.hold(ids, blobs)
}

// number is one as codec's words tell it.
func number(n uint64) []byte { return binary.AppendUvarint(nil, n) }

// join are rows, one behind the other.
func join(rows ...[]byte) []byte { return slices.Concat(rows...) }

// index are the bytes of where objects are, by chapter 14.
func (m *telling) index() []byte {
	l := slices.Clone(m.spots)
	slices.SortFunc(l, func(x, y spot) int { return bytes.Compare(x.id[:], y.id[:]) })
	b := number(uint64(len(l)))
	for _, s := range l {
		b = join(b, s.id[:], s.pack[:], number(uint64(s.n)))
	}
	return b
}

// put tells what Put must.
func (m *telling) put() []byte {
	b := join(number(m.next), number(m.done), number(uint64(len(m.snaps))))
	for _, id := range m.snaps {
		b = append(b, id[:]...)
	}
	return join(b, number(uint64(len(m.index()))), m.index())
}

// repo is a repo that is as this telling is: got, and given what is there.
func (m *telling) repo(t *testing.T) *repo.Repo {
	t.Helper()
	r, err := repo.Get(m.key, m.c, m.put())
	if err != api.OK {
		t.Fatal("Get tells", err)
	}
	for id, b := range m.there {
		if err := r.Give(b); err != api.OK {
			t.Fatalf("Give of pack %x tells %v", id[:4], err)
		}
	}
	return r
}

// same tells a fault unless a repo is as its second telling, in all that it tells without being asked for a tree.
func same(t *testing.T, r *repo.Repo, m *telling) {
	t.Helper()
	if got := r.Snaps(); !slices.Equal(got, m.snaps) {
		t.Errorf("Snaps are %x, not %x", got, m.snaps)
	}
	l, counts := m.count()
	if got := r.Packs(); !slices.Equal(got, l) {
		t.Errorf("Packs are %x, not %x", got, l)
	}
	if got, n := r.Count(); !slices.Equal(got, l) || !slices.Equal(n, counts) {
		t.Errorf("Count is %x %d, not %x %d", got, n, l, counts)
	}
	for id := range m.tried {
		l = append(l, id)
	}
	for _, id := range append(l, api.Id{}, api.Id{1}) {
		want, is := m.there[id]
		if b, got := r.Pack(id); got != is || !bytes.Equal(b, want) {
			t.Errorf("Pack %x is there: %v, not %v, or has other bytes", id[:4], got, is)
		}
	}
	for _, s := range append(m.spots, spot{id: api.Id{1}}) {
		was, is := m.spot(s.id)
		if pack, got := r.Where(s.id); got != is || pack != was.pack {
			t.Errorf("Where of %x is %x %v, not %x %v", s.id[:4], pack, got, was.pack, is)
		}
	}
	if got := r.Put(); !bytes.Equal(got, m.put()) {
		t.Errorf("Put is %x, not %x", got, m.put())
	}
}

// reads tells a fault unless a snapshot is told as the second telling tells it.
func reads(t *testing.T, r *repo.Repo, m *telling, snap api.Id) {
	t.Helper()
	tree, label, err := m.restore(snap)
	restores(t, r, snap, tree, label, err)
	ids, err := m.objects(snap)
	names(t, r, snap, ids, err)
}

// restores tells a fault unless Restore answers so.
func restores(t *testing.T, r *repo.Repo, snap api.Id, tree []files.File, label string, err api.Errno) {
	t.Helper()
	l, text, got := r.Restore(snap)
	if got != err || !files.Same(l, tree) || text != label {
		t.Errorf("Restore of %x tells %d files, %q, %v, not %d files, %q, %v", snap[:4], len(l), text, got, len(tree), label, err)
	}
}

// names tells a fault unless Objects answers so.
func names(t *testing.T, r *repo.Repo, snap api.Id, ids []api.Id, err api.Errno) {
	t.Helper()
	l, got := r.Objects(snap)
	if got != err || !slices.Equal(l, ids) {
		t.Errorf("Objects of %x tells %x, %v, not %x, %v", snap[:4], l, got, ids, err)
	}
}

// backs tells a fault unless Backup answers as the second telling does, and all is as it is there then.
func backs(t *testing.T, r *repo.Repo, m *telling, l []files.File, label string) (api.Id, []api.Id, api.Errno) {
	t.Helper()
	snap, news, err := m.backup(l, label)
	got, told, is := r.Backup(l, label)
	if got != snap || !slices.Equal(told, news) || is != err {
		t.Errorf("Backup tells %x, %x, %v, not %x, %x, %v", got[:4], told, is, snap[:4], news, err)
	}
	same(t, r, m)
	return got, told, is
}

// rewrites is so of Rewrite.
func rewrites(t *testing.T, r *repo.Repo, m *telling, away, needed []api.Id) ([]api.Id, api.Errno) {
	t.Helper()
	news, err := m.rewrite(away, needed)
	told, is := r.Rewrite(away, needed)
	if !slices.Equal(told, news) || is != err {
		t.Errorf("Rewrite tells %x, %v, not %x, %v", told, is, news, err)
	}
	same(t, r, m)
	return told, is
}
