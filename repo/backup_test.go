package repo_test

import (
	"bytes"
	"math"
	"math/rand"
	"slices"
	"strconv"
	"strings"
	"testing"

	"bailee/api"
	"bailee/cutter"
	"bailee/files"
	"bailee/objects"
	"bailee/packs"
	"bailee/repo"
	"bailee/seal"
)

// usual is how most tests cut, and how much a pack of theirs has.
var usual = repo.Config{Cut: cutter.Config{Least: 4, Most: 16, Bits: 2}, Pack: 1000}

// ours is the key of most tests, and other one that it isn't.
var ours, other = api.Key{1, 2, 3}, api.Key{1, 2, 4}

// config is one by its numbers.
func config(least, most, bits, pack int) repo.Config {
	return repo.Config{Cut: cutter.Config{Least: least, Most: most, Bits: bits}, Pack: pack}
}

// fresh is a repo that is new, and its second telling.
func fresh(t *testing.T, c repo.Config) (*repo.Repo, *telling) {
	t.Helper()
	r, err := repo.New(ours, c)
	if err != api.OK {
		t.Fatal("New tells", err)
	}
	return r, second(ours, c)
}

// some are so many bytes that are like no others.
func some(seed int64, n int) []byte {
	b := make([]byte, n)
	rand.New(rand.NewSource(seed)).Read(b)
	return b
}

// file is one of a text.
func file(path, text string) files.File { return files.File{Path: path, Bytes: []byte(text)} }

// tree is one of paths and texts, by turns.
func tree(l ...string) []files.File {
	var all []files.File
	for i := 0; i < len(l); i += 2 {
		all = append(all, file(l[i], l[i+1]))
	}
	return all
}

// many are so many files in a directory, each with a text.
func many(dir string, n int, text string) []files.File {
	var l []files.File
	for i := range n {
		l = append(l, file(dir+strconv.Itoa(10000+i), text))
	}
	return l
}

// plain are an object's bytes.
func plain(t *testing.T, x objects.Object) []byte {
	t.Helper()
	b, err := objects.Put(x)
	if err != api.OK {
		t.Fatal("objects.Put tells", err)
	}
	return b
}

// named is what an object is known by.
func named(t *testing.T, x objects.Object) api.Id {
	t.Helper()
	return seal.Name(ours, plain(t, x))
}

// blob is an object that is sealed under a number.
func blob(t *testing.T, n uint64, x objects.Object) []byte {
	t.Helper()
	b, err := seal.Seal(ours, x.Kind, n, plain(t, x))
	if err != api.OK {
		t.Fatal("seal.Seal tells", err)
	}
	return b
}

// packed are the bytes of a pack of blobs.
func packed(t *testing.T, l ...[]byte) []byte {
	t.Helper()
	b, err := packs.Put(l)
	if err != api.OK {
		t.Fatal("packs.Put tells", err)
	}
	return b
}

// --- P15.1: New

func TestP151New(t *testing.T) {
	for _, c := range []repo.Config{
		config(1, 1, 1, 100), config(1, 1<<15, 24, 1<<20), config(1<<15, 1<<15, 1, 100),
		config(1, 2, 1, 101), config(7, 7, 24, 1<<20-1), config(1, 1<<15-1, 12, 65536),
	} {
		r, err := repo.New(ours, c)
		if err != api.OK || r == nil {
			t.Error(c, "isn't taken:", err)
			continue
		}
		same(t, r, second(ours, c))
		if got := r.Put(); !bytes.Equal(got, []byte{1, 0, 0, 1, 0}) {
			t.Error(c, "put", got)
		}
	}
	for _, c := range []repo.Config{
		{}, config(0, 1, 1, 100), config(-1, 1, 1, 100), config(2, 1, 1, 100), config(1, 1, 0, 100), config(1, 1, 25, 100),
		config(1, 1<<15+1, 1, 100), config(1, 1<<16, 1, 100), config(1<<15+1, 1<<15+1, 1, 100), config(1, 1<<16+1, 1, 100),
		config(1, 1, 1, 99), config(1, 1, 1, 0), config(1, 1, 1, -100), config(1, 1, 1, 1<<20+1),
		config(1, 1, 1, math.MaxInt), config(1, 1, 1, math.MinInt), config(1, math.MaxInt, 1, 100), config(math.MinInt, 1, 1, 100), config(1, 1, math.MaxInt, 100),
	} {
		if r, err := repo.New(ours, c); err != api.ErrArg || r != nil {
			t.Error(c, "tells", r, err)
		}
		if r, err := repo.Get(ours, c, []byte{1, 0, 0, 1, 0}); err != api.ErrArg || r != nil {
			t.Error(c, "is got and tells", r, err)
		}
	}
}

// --- P15.1: Backup

// TestP151NoFiles is the chapter's example, byte by byte.
func TestP151NoFiles(t *testing.T) {
	r, m := fresh(t, usual)
	snap, news, err := r.Backup(nil, "me")
	if err != api.OK || len(news) != 1 {
		t.Fatal(news, err)
	}
	dir := []byte{3, 0}
	top := seal.Name(ours, dir)
	last := join([]byte{4, 1}, top[:], []byte{2, 'm', 'e'})
	if snap != seal.Name(ours, last) {
		t.Error("the snapshot's id is another one")
	}
	one, _ := seal.Seal(ours, 3, 1, dir)
	two, _ := seal.Seal(ours, 4, 2, last)
	want := join([]byte{2, 43}, one, []byte{78}, two)
	if news[0] != packs.Id(want) {
		t.Error("the pack's id is another one")
	}
	if b, is := r.Pack(news[0]); !is || !bytes.Equal(b, want) {
		t.Errorf("the pack is %x, not %x", b, want)
	}
	if l, n := r.Count(); !slices.Equal(l, news) || !slices.Equal(n, []int{2}) {
		t.Error("Count is", l, n)
	}
	m.backup(nil, "me")
	same(t, r, m)
	reads(t, r, m, snap)
	names(t, r, snap, []api.Id{snap, top}, api.OK)
	restores(t, r, snap, nil, "me", api.OK)
	ids := []spot{{top, news[0], 0}, {snap, news[0], 1}}
	if top[0] > snap[0] {
		slices.Reverse(ids)
	}
	b := join([]byte{3, 1, 1}, snap[:], []byte{1 + 2*65, 1, 2})
	for _, s := range ids {
		b = join(b, s.id[:], s.pack[:], []byte{byte(s.n)})
	}
	if got := r.Put(); !bytes.Equal(got, b) {
		t.Errorf("Put is %x, not %x", got, b)
	}
}

// TestP151Order: objects by hand, in their order: names rise, not paths.
func TestP151Order(t *testing.T) {
	c := config(2, 2, 1, 120)
	r, m := fresh(t, c)
	l := tree("a!", "wxyz", "a/b", "wx", "a/c/d", "yzwxv", "e", "")
	piece := func(s string) objects.Object { return objects.Object{Kind: objects.Piece, Bytes: []byte(s)} }
	list := func(n uint64, l ...string) objects.Object {
		x := objects.Object{Kind: objects.List, Size: n}
		for _, s := range l {
			x.Ids = append(x.Ids, named(t, piece(s)))
		}
		return x
	}
	dir := func(l ...objects.Entry) objects.Object { return objects.Object{Kind: objects.Dir, Entries: l} }
	b, d, bang := list(2, "wx"), list(5, "yz", "wx", "v"), list(4, "wx", "yz")
	inner := dir(objects.Entry{Name: "d", Id: named(t, d)})
	a := dir(objects.Entry{Name: "b", Id: named(t, b)}, objects.Entry{Name: "c", Dir: true, Id: named(t, inner)})
	top := dir(objects.Entry{Name: "a", Dir: true, Id: named(t, a)}, objects.Entry{Name: "a!", Id: named(t, bang)}, objects.Entry{Name: "e", Id: named(t, list(0))})
	snap := objects.Object{Kind: objects.Snap, Size: 1, Ids: []api.Id{named(t, top)}, Label: "x"}
	var blobs [][]byte
	var sizes []int
	order := []objects.Object{piece("wx"), b, piece("yz"), piece("v"), d, inner, a, bang, list(0), top, snap}
	for i, x := range order {
		blobs = append(blobs, blob(t, uint64(i+1), x))
		sizes = append(sizes, len(blobs[i]))
	}
	// 120 bytes hold one or two of these.
	filled, err := packs.Fill(sizes, 120)
	if err == api.OK {
		t.Fatal("a pack holds them all")
	}
	c.Pack = 240
	filled, err = packs.Fill(sizes, 240)
	if err != api.OK || len(filled) < 3 {
		t.Fatal(filled, err)
	}
	was := r.Put()
	if _, news, err := r.Backup(l, "x"); err != api.ErrBig || len(news) != 0 || !bytes.Equal(r.Put(), was) {
		t.Error("packs of 120 bytes hold these", err)
	}
	r, m = fresh(t, c)
	got, news, err := backs(t, r, m, l, "x")
	if got != named(t, snap) || len(news) != len(filled) || err != api.OK {
		t.Fatal(got, news, err)
	}
	for i, l := range filled {
		var in [][]byte
		for n, k := range l {
			in = append(in, blobs[k])
			if pack, is := r.Where(named(t, order[k])); !is || pack != news[i] {
				t.Error("object", k, "isn't blob", n, "of pack", i)
			}
		}
		if b, is := r.Pack(news[i]); !is || !bytes.Equal(b, packed(t, in...)) {
			t.Error("pack", i, "has other bytes")
		}
	}
	reads(t, r, m, got)
	restores(t, r, got, l, "x", api.OK)
	var ids []api.Id
	for _, x := range []objects.Object{snap, top, a, b, piece("wx"), inner, d, piece("yz"), piece("v"), bang, list(0)} {
		ids = append(ids, named(t, x))
	}
	names(t, r, got, ids, api.OK)
}

// TestP151Behind: backups one behind the other keep what is new alone, under numbers that go on.
func TestP151Behind(t *testing.T) {
	r, m := fresh(t, usual)
	l := tree("a", "some text that is cut", "b/c", "some text that is cut", "b/d", "another text")
	one, news, err := backs(t, r, m, l, "one")
	if err != api.OK || len(news) == 0 {
		t.Fatal(news, err)
	}
	two, news, _ := backs(t, r, m, l, "one")
	if _, n := r.Count(); one == two || len(news) != 1 || !slices.Contains(n, 1) {
		t.Error("the same tree again keeps", news, n)
	}
	l = append(l, file("b/e", "more"))
	three, _, _ := backs(t, r, m, l, "one")
	four, news, _ := backs(t, r, m, nil, "")
	if len(news) != 1 || !slices.Equal(r.Snaps(), []api.Id{one, two, three, four}) {
		t.Error("Snaps are", r.Snaps(), news)
	}
	for _, id := range r.Snaps() {
		reads(t, r, m, id)
	}
	// Numbers, as they were sealed.
	var numbers []uint64
	for _, id := range r.Packs() {
		b, _ := r.Pack(id)
		blobs, err := packs.Get(b)
		if err != api.OK || len(b) > usual.Pack {
			t.Fatal(err, len(b))
		}
		for _, x := range blobs {
			_, _, n, err := seal.Open(ours, x)
			if err != api.OK {
				t.Error("a blob that the key doesn't open")
			}
			numbers = append(numbers, n)
		}
	}
	slices.Sort(numbers)
	for i, n := range numbers {
		if n != uint64(i+1) {
			t.Error("numbers are", numbers)
			break
		}
	}
	if len(numbers) != len(m.spots) {
		t.Error(len(numbers), "blobs of", len(m.spots), "objects")
	}
}

// unchanged tells a fault unless Backup tells an error, and nothing else, and changes nothing.
func unchanged(t *testing.T, r *repo.Repo, m *telling, l []files.File, label string, want api.Errno, what ...any) {
	t.Helper()
	before := m.copied()
	snap, news, err := backs(t, r, m, l, label)
	if err != want || snap != (api.Id{}) || news != nil {
		t.Error(append(what, "tells", err, "not", want)...)
	}
	if !bytes.Equal(before.put(), m.put()) {
		t.Error(append(what, "changes the second telling")...)
	}
	same(t, r, before)
}

func TestP151NoTree(t *testing.T) {
	r, m := fresh(t, usual)
	backs(t, r, m, tree("a", "text"), "first")
	for _, l := range [][]files.File{
		tree("", ""), tree("b", "", "a", ""), tree("a", "", "a", ""), tree("a", "", "a/b", ""), tree("a", "", "a!", "", "a/b", ""),
		tree("a//b", ""), tree("/a", ""), tree("a/", ""), tree(".", ""), tree("a/..", ""), tree("a\x1f", ""), tree(strings.Repeat("a", 256), ""),
	} {
		unchanged(t, r, m, l, "ok", api.ErrArg, l)
		unchanged(t, r, m, l, strings.Repeat("l", 256), api.ErrArg, l)
	}
	big := []files.File{{Path: "a", Bytes: make([]byte, 1<<20+1)}}
	unchanged(t, r, m, big, "ok", api.ErrBig, "a great file")
	unchanged(t, r, m, append(big, file("a", "")), "ok", api.ErrArg, "a great file, and no tree")
	whole := bytes.Repeat([]byte{7}, 1<<20)
	var l []files.File
	for i := range 17 {
		l = append(l, files.File{Path: strconv.Itoa(10 + i), Bytes: whole[:min(len(whole), 1<<24+1-i<<20)]})
	}
	unchanged(t, r, m, l, "ok", api.ErrBig, "all together")
	unchanged(t, r, m, many("", 65537, ""), "ok", api.ErrBig, "many files")
}

// TestP151Objects: what an object can't be, at its edges.
func TestP151Objects(t *testing.T) {
	c := config(1, 1, 1, 1<<20)
	r, m := fresh(t, c)
	for _, n := range []int{1000, 1001} {
		l := tree("a", strings.Repeat("x", n))
		if n == 1001 {
			unchanged(t, r, m, l, "ok", api.ErrBig, n, "pieces")
			continue
		}
		if snap, _, err := backs(t, r, m, l, "ok"); err == api.OK {
			reads(t, r, m, snap)
		} else {
			t.Error(n, "pieces:", err)
		}
	}
	for _, n := range []int{255, 256} {
		label := strings.Repeat("\xff", n)
		if n == 256 {
			unchanged(t, r, m, nil, label, api.ErrBig, "a label of", n)
			continue
		}
		snap, _, err := backs(t, r, m, nil, label)
		if err != api.OK {
			t.Error("a label of", n, err)
		}
		restores(t, r, snap, nil, label, api.OK)
	}
	for _, dir := range []string{"", "a/", "a/b/c/"} {
		l := many(dir, 499, "x")
		l = append(l, files.File{Path: dir + "zz/z"})
		if snap, _, err := backs(t, r, m, l, "ok"); err == api.OK {
			reads(t, r, m, snap)
		} else {
			t.Error("500 names:", err)
		}
		unchanged(t, r, m, append(l, files.File{Path: dir + "zzz"}), "ok", api.ErrBig, "501 names")
	}
}

// wide are files in the top, whose Dir has just so many bytes.
func wide(t *testing.T, size int) []files.File {
	t.Helper()
	l := many("", 450, "")
	x := objects.Object{Kind: objects.Dir}
	for _, f := range l {
		x.Entries = append(x.Entries, objects.Entry{Name: f.Path})
	}
	for i := range l {
		left := size - len(plain(t, x))
		if left == 0 {
			return l
		}
		more := min(left, 127-len(x.Entries[i].Name))
		l[i].Path += strings.Repeat("x", more)
		x.Entries[i].Name = l[i].Path
	}
	t.Fatal("names are too short")
	return nil
}

// TestP151Seal: a Dir may be of as many bytes as are sealed.
func TestP151Seal(t *testing.T) {
	r, m := fresh(t, config(1, 1, 1, 1<<20))
	snap, _, err := backs(t, r, m, wide(t, 65535), "")
	if err != api.OK {
		t.Fatal(err)
	}
	reads(t, r, m, snap)
	if snap, _, err = backs(t, r, m, wide(t, 65536), ""); err != api.OK {
		t.Fatal(err)
	}
	reads(t, r, m, snap)
	unchanged(t, r, m, wide(t, 65537), "", api.ErrBig, "a Dir of 65537 bytes")
	// Also where it has a place, of whatever bytes, or of none that are there.
	x := objects.Object{Kind: objects.Dir}
	for _, f := range wide(t, 65537) {
		x.Entries = append(x.Entries, objects.Entry{Name: f.Path, Id: named(t, objects.Object{Kind: objects.List})})
	}
	for _, b := range [][]byte{blob(t, 9, objects.Object{Kind: objects.Piece}), nil} {
		m := second(ours, config(1, 1, 1, 1<<20))
		m.lay(named(t, x), b)
		unchanged(t, m.repo(t), m, wide(t, 65537), "", api.ErrBig, "a Dir of 65537 bytes that has a place")
	}
}

// lay lets a blob be there, in a pack of its own, as what some object's is; of nil: the pack isn't there.
func (m *telling) lay(id api.Id, b []byte) api.Id {
	if b == nil {
		pack := api.Id{byte(len(m.spots)), 99}
		m.spots = append(m.spots, spot{id, pack, 0})
		return pack
	}
	in, _ := packs.Put([][]byte{b})
	pack := packs.Id(in)
	m.there[pack] = in
	m.spots = append(m.spots, spot{id, pack, 0})
	return pack
}

// TestP151Fill: a blob that no pack holds.
func TestP151Fill(t *testing.T) {
	// A piece of n bytes is 2 and n bytes, 41 more as a blob, and 2 more in a pack: up to 55 in one of 100.
	c := config(200, 200, 1, 100)
	r, m := fresh(t, c)
	backs(t, r, m, nil, "")
	for n := 45; n < 65; n++ {
		l := tree("a", strings.Repeat("x", n))
		if n > 100-41-2-2 {
			unchanged(t, r, m, l, "", api.ErrBig, n, "bytes")
			continue
		}
		if snap, _, err := backs(t, r, m, l, ""); err == api.OK {
			reads(t, r, m, snap)
		} else {
			t.Error(n, "bytes:", err)
		}
	}
	// What has a place needs no room.
	r, m = fresh(t, config(200, 200, 1, 1000))
	l := tree("a", strings.Repeat("x", 120))
	backs(t, r, m, l, "")
	m.c.Pack = 100
	small := m.repo(t)
	if _, _, err := backs(t, small, m, l, ""); err != api.OK {
		t.Error("what has a place is put once more:", err)
	}
	unchanged(t, small, m, tree("a", strings.Repeat("x", 121)), "", api.ErrBig, "a new piece")
}

// TestP151Many: a pack has at most 1024 objects, and at most as many bytes as Config tells.
func TestP151Many(t *testing.T) {
	r, m := fresh(t, config(2, 2, 1, 1<<20))
	l := many("a/", 400, "")
	l = append(l, many("b/", 120, "")...)
	for i := range l {
		l[i].Bytes = []byte{byte(i >> 8), byte(i)}
	}
	snap, news, err := backs(t, r, m, l, "")
	if _, n := r.Count(); err != api.OK || len(news) != 2 || !slices.Contains(n, 1024) {
		t.Error(news, n, err)
	}
	reads(t, r, m, snap)
}

// TestP151Twice: an id that other bytes have, in all the ways in which that may be, and in those in which it isn't told.
func TestP151Twice(t *testing.T) {
	l := tree("a", "text", "b", "more text")
	m := second(ours, config(9, 9, 1, 1000))
	rows, _ := m.made(l, "x")
	piece := objects.Object{Kind: objects.Piece, Bytes: []byte("else")}
	foreign, _ := seal.Seal(other, 1, 5, []byte("else"))
	spoilt := blob(t, 5, piece)
	spoilt[len(spoilt)-1] ^= 1
	empty, _ := seal.Seal(ours, 1, 5, nil)
	for i, x := range rows {
		own, _ := seal.Seal(ours, x.kind%4+1, 77, x.plain)
		longer, _ := seal.Seal(ours, x.kind, 77, append(bytes.Clone(x.plain), 0))
		shorter, _ := seal.Seal(ours, x.kind, 77, x.plain[1:])
		for _, c := range []struct {
			what string
			blob []byte
			want api.Errno
		}{
			{"another object", blob(t, 5, piece), api.ErrTwice},
			{"what is no object", empty, api.ErrTwice},
			{"a byte more", longer, api.ErrTwice},
			{"a byte less", shorter, api.ErrTwice},
			{"the same bytes, under another kind and number", own, api.OK},
			{"what the key doesn't open", foreign, api.OK},
			{"what is spoilt", spoilt, api.OK},
			{"a pack that isn't there", nil, api.OK},
		} {
			m := second(ours, m.c)
			pack := m.lay(x.id, c.blob)
			r := m.repo(t)
			if c.want == api.ErrTwice {
				unchanged(t, r, m, l, "x", api.ErrTwice, "object", i, "is", c.what)
				// It is no more, if these bytes aren't there.
				m.lose(pack)
				r.Lose(pack)
			}
			snap, _, err := backs(t, r, m, l, "x")
			if at, is := r.Where(x.id); err != api.OK || !is || at != pack {
				t.Error("object", i, "is", c.what, err, "and has another place", at != pack)
			}
			reads(t, r, m, snap)
		}
		// A pack that isn't one, and a blob that there isn't.
		m := second(ours, m.c)
		b := []byte("no pack")
		m.there[packs.Id(b)] = b
		m.spots = append(m.spots, spot{x.id, packs.Id(b), 0})
		backs(t, m.repo(t), m, l, "x")
		m = second(ours, m.c)
		pack := m.lay(api.Id{8}, blob(t, 5, piece))
		m.spots = append(m.spots, spot{x.id, pack, 0})
		unchanged(t, m.repo(t), m, l, "x", api.ErrTwice, "object", i)
		m.spots[1].n = 1
		if _, _, err := backs(t, m.repo(t), m, l, "x"); err != api.OK {
			t.Error("object", i, "is no blob:", err)
		}
	}
}

// TestP151First: of ErrBig and ErrTwice the one that comes up first is told.
func TestP151First(t *testing.T) {
	c := config(1, 1, 1, 1000)
	l := tree("a", "v", "b", strings.Repeat("w", 1001), "c", "x")
	m := second(ours, c)
	rows, err := m.made(l, "")
	rows = slices.CompactFunc(rows, func(x, y row) bool { return x.id == y.id })
	if err != api.ErrBig || len(rows) != 3 {
		t.Fatal(len(rows), err)
	}
	wrong := blob(t, 5, objects.Object{Kind: objects.Piece, Bytes: []byte("else")})
	for _, x := range rows {
		m := second(ours, c)
		m.lay(x.id, wrong)
		unchanged(t, m.repo(t), m, l, "", api.ErrTwice, "ahead of b's list")
	}
	for _, x := range []objects.Object{{Kind: objects.Piece, Bytes: []byte("x")}, {Kind: objects.Piece, Bytes: []byte("y")}} {
		m := second(ours, c)
		m.lay(named(t, x), wrong)
		unchanged(t, m.repo(t), m, l, "", api.ErrBig, "behind b's list")
	}
	// The snapshot is the last of all; a pack's ErrBig is behind each ErrTwice.
	label := strings.Repeat("l", 256)
	m = second(ours, c)
	rows, _ = m.made(tree("a", "v"), "")
	for _, x := range rows[:len(rows)-1] {
		m := second(ours, c)
		m.lay(x.id, wrong)
		unchanged(t, m.repo(t), m, tree("a", "v"), label, api.ErrTwice, "ahead of the snapshot")
	}
	c = config(1<<15, 1<<15, 1, 100)
	l = tree("a", strings.Repeat("v", 200), "b", "w")
	m = second(ours, c)
	rows, _ = m.made(l, "")
	for _, x := range rows {
		m := second(ours, c)
		m.lay(x.id, wrong)
		unchanged(t, m.repo(t), m, l, "", api.ErrTwice, "ahead of packs")
	}
	unchanged(t, m.repo(t), m, l, "", api.ErrBig, "a pack that is too small")
}

// TestP151Numbers: numbers go on, from wherever they are.
func TestP151Numbers(t *testing.T) {
	for _, next := range []uint64{1, 2, 255, 1 << 32, math.MaxUint64 - 1, math.MaxUint64} {
		for _, done := range []uint64{0, 1, 1 << 40, math.MaxUint64 - 1, math.MaxUint64} {
			m := second(ours, usual)
			m.next, m.done = next, done
			r := m.repo(t)
			snap, news, err := backs(t, r, m, nil, "")
			if err != api.OK || len(news) != 1 {
				t.Fatal(next, done, err)
			}
			b, _ := r.Pack(news[0])
			l, _ := packs.Get(b)
			_, _, one, _ := seal.Open(ours, l[0])
			last, _, two, _ := seal.Open(ours, l[1])
			x, _ := objects.Get(last)
			if one != next || two != next+1 || x.Size != done+1 {
				t.Error(next, done, "tells", one, two, x.Size)
			}
			reads(t, r, m, snap)
		}
	}
}

// TestP151Once: a snapshot that is made once more is told behind the others, once.
func TestP151Once(t *testing.T) {
	m := second(ours, usual)
	one, _, _ := m.backup(nil, "one")
	two, _, _ := m.backup(nil, "two")
	for _, c := range []struct{ ahead, behind []api.Id }{
		{[]api.Id{one, two}, []api.Id{two, one}},
		{[]api.Id{two, one}, []api.Id{two, one}},
		{[]api.Id{one}, []api.Id{one}},
		{[]api.Id{two}, []api.Id{two, one}},
		{nil, []api.Id{one}},
		{[]api.Id{one, two, one}, []api.Id{two, one}},
		{[]api.Id{one, one, two}, []api.Id{two, one}},
		{[]api.Id{two, two}, []api.Id{two, two, one}},
	} {
		m := m.copied()
		m.snaps, m.done = c.ahead, 0
		r := m.repo(t)
		snap, news, err := backs(t, r, m, nil, "one")
		if snap != one || news != nil || err != api.OK || !slices.Equal(r.Snaps(), c.behind) {
			t.Errorf("of %d: %v, %v, Snaps are %x", len(c.ahead), news, err, r.Snaps())
		}
		reads(t, r, m, one)
		if err := r.Forget(two); err == api.OK && slices.Contains(r.Snaps(), two) {
			t.Error("one that stood there twice is one still")
		}
	}
}

// TestP151SamePack: a new pack has the id of one whose bytes are there, and they are the same.
func TestP151SamePack(t *testing.T) {
	m := second(ours, config(4, 4, 1, 100))
	m.backup(tree("a", "text"), "")
	for i := range m.spots {
		// One object has no place any more, but its pack is one still, by another object.
		m := m.copied()
		m.next, m.done, m.snaps = uint64(i)+1, 0, nil
		m.spots[i].id = api.Id{byte(i)}
		r := m.repo(t)
		snap, news, err := backs(t, r, m, tree("a", "text"), "")
		if err != api.OK || len(news) != 1 || news[0] != m.spots[i].pack {
			t.Error("object", i, "tells", news, err)
		}
		reads(t, r, m, snap)
	}
}
