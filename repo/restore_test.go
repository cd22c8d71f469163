package repo_test

import (
	"math/rand"
	"slices"
	"strconv"
	"strings"
	"testing"

	"bailee/api"
	"bailee/files"
	"bailee/objects"
	"bailee/packs"
	"bailee/repo"
	"bailee/seal"
)

// crafted is the second telling of a repo that no backup made: each object lies in a pack of its own.
type crafted struct {
	*telling
	t *testing.T
}

// craft has nothing yet.
func craft(t *testing.T) crafted { return crafted{second(ours, usual), t} }

// add lets an object be there.
func (c crafted) add(x objects.Object) api.Id {
	c.t.Helper()
	id := named(c.t, x)
	if _, is := c.spot(id); !is {
		c.lay(id, blob(c.t, c.next, x))
		c.next++
	}
	return id
}

// piece is one of a text.
func (c crafted) piece(text string) api.Id {
	c.t.Helper()
	return c.add(objects.Object{Kind: objects.Piece, Bytes: []byte(text)})
}

// list is a file of a size, and of these.
func (c crafted) list(size int, l ...api.Id) api.Id {
	c.t.Helper()
	return c.add(objects.Object{Kind: objects.List, Size: uint64(size), Ids: l})
}

// text is a file of one piece.
func (c crafted) text(text string) api.Id {
	c.t.Helper()
	return c.list(len(text), c.piece(text))
}

// at is a file's name.
func at(name string, id api.Id) objects.Entry { return objects.Entry{Name: name, Id: id} }

// in is a directory's name.
func in(name string, id api.Id) objects.Entry { return objects.Entry{Name: name, Dir: true, Id: id} }

// dir is one of these names, that rise.
func (c crafted) dir(l ...objects.Entry) api.Id {
	c.t.Helper()
	return c.add(objects.Object{Kind: objects.Dir, Entries: l})
}

// snap is a snapshot of a directory, that is one of Snaps.
func (c crafted) snap(top api.Id) api.Id {
	c.t.Helper()
	id := c.add(objects.Object{Kind: objects.Snap, Size: c.done + 1, Ids: []api.Id{top}, Label: "crafted"})
	c.done++
	c.snaps = append(c.snaps, id)
	return id
}

// away lets an object have no place any more.
func (c crafted) away(id api.Id) {
	c.spots = slices.DeleteFunc(c.spots, func(s spot) bool { return s.id == id })
	for pack := range c.there {
		if l, _ := c.count(); !slices.Contains(l, pack) {
			delete(c.there, pack)
		}
	}
}

// instead lets some blob lie where an object is.
func (c crafted) instead(id api.Id, b []byte) {
	c.away(id)
	c.lay(id, b)
}

// tells tells a fault unless Restore and Objects answer so.
func (c crafted) tells(snap api.Id, l []files.File, restored, named api.Errno, what ...any) {
	c.t.Helper()
	r := c.repo(c.t)
	label := "crafted"
	if restored != api.OK {
		l, label = nil, ""
	}
	got, text, err := r.Restore(snap)
	if err != restored || text != label || !files.Same(got, l) {
		c.t.Error(append(what, "is restored:", len(got), "files,", text, err, "not", len(l), restored)...)
	}
	if _, err := r.Objects(snap); err != named {
		c.t.Error(append(what, "'s objects are told:", err, "not", named)...)
	}
	same(c.t, r, c.telling)
	reads(c.t, r, c.telling, snap)
}

// --- P15.2

func TestP152Restore(t *testing.T) {
	for _, c := range []repo.Config{usual, config(1, 1, 1, 600), config(1, 3, 1, 700), config(1<<15, 1<<15, 24, 1<<20), config(64, 1024, 6, 5000)} {
		r, m := fresh(t, c)
		trees := [][]files.File{
			nil,
			tree("a", ""),
			tree("a", "text"),
			tree("a!", "1", "a/b", "2", "a0", "3"),
			tree("a b", "", "a/b!", "x", "a/b/c", "yy", "a/b/c!", "", "a/b0", "zzz", "a0/a/b", "yy"),
			tree("1", "same", "2", "same", "3/3", "same", "3/4/5/6", "samesame"),
			tree(strings.Repeat("d/", 126)+"xyz", "deep"),
			tree(strings.Repeat("n", 255), "long"),
			tree("\xff\xfe", "no text", "\xff\xff/\x80", "none"),
		}
		if c.Cut.Most >= 16 {
			trees = append(trees, []files.File{{Path: "big", Bytes: some(5, c.Pack/10)}, {Path: "nought", Bytes: make([]byte, c.Pack/10)}})
		}
		if c.Cut.Most == 1<<15 {
			trees = append(trees, []files.File{{Path: "big", Bytes: some(6, 300000)}, {Path: "bigger", Bytes: some(7, 1<<20)}})
		}
		var snaps []api.Id
		for i, l := range trees {
			label := "tree " + strconv.Itoa(i)
			snap, _, err := backs(t, r, m, l, label)
			if err != api.OK {
				t.Fatal(c, i, err)
			}
			restores(t, r, snap, l, label, api.OK)
			snaps = append(snaps, snap)
		}
		for i, snap := range snaps {
			restores(t, r, snap, trees[i], "tree "+strconv.Itoa(i), api.OK)
			reads(t, r, m, snap)
		}
		if !slices.Equal(r.Snaps(), snaps) {
			t.Error("Snaps are", r.Snaps())
		}
	}
}

// TestP152None: what isn't one of Snaps.
func TestP152None(t *testing.T) {
	r, m := fresh(t, usual)
	one, _, _ := backs(t, r, m, tree("a", "text"), "")
	two, _, _ := backs(t, r, m, tree("b", "text"), "")
	none := []api.Id{{}, {1}}
	for _, s := range m.spots {
		if s.id != one && s.id != two {
			none = append(none, s.id)
		}
	}
	none = append(none, r.Packs()...)
	for _, id := range none {
		restores(t, r, id, nil, "", api.ErrNone)
		names(t, r, id, nil, api.ErrNone)
		if err := r.Forget(id); err != api.ErrNone {
			t.Error("Forget tells", err)
		}
	}
	same(t, r, m)
	if err := r.Forget(one); err != api.OK || m.forget(one) != api.OK {
		t.Error("Forget tells", err)
	}
	same(t, r, m)
	if !slices.Equal(r.Snaps(), []api.Id{two}) {
		t.Error("Snaps are", r.Snaps())
	}
	restores(t, r, one, nil, "", api.ErrNone)
	names(t, r, one, nil, api.ErrNone)
	reads(t, r, m, two)
	if err := r.Forget(one); err != api.ErrNone {
		t.Error("Forget tells", err)
	}
	// Its objects have their places still: the same tree makes just one new one.
	if _, news, _ := backs(t, r, m, tree("a", "text"), ""); len(news) != 1 {
		t.Error(news)
	}
}

// parts are what TestP152Spoilt's tree is made of, as they are made.
var parts = []string{"one", "two", "three", "p", "q", "a", "bang", "e", "top", "snap"}

// made is a tree with one of all, each object as put makes it; the snapshot.
func (c crafted) made(put func(what string, x objects.Object) api.Id) api.Id {
	c.t.Helper()
	piece := func(text string) api.Id {
		return put(text, objects.Object{Kind: objects.Piece, Bytes: []byte(text)})
	}
	list := func(what string, size uint64, l ...api.Id) api.Id {
		return put(what, objects.Object{Kind: objects.List, Size: size, Ids: l})
	}
	dir := func(what string, l ...objects.Entry) api.Id {
		return put(what, objects.Object{Kind: objects.Dir, Entries: l})
	}
	one, two, three := piece("one"), piece("two"), piece("three")
	p, q := list("p", 9, one, two, one), list("q", 0)
	a := dir("a", at("p", p), at("q", q))
	bang := list("bang", 8, one, three)
	e := dir("e")
	top := dir("top", in("a", a), at("a!", bang), in("e", e))
	snap := put("snap", objects.Object{Kind: objects.Snap, Size: 1, Ids: []api.Id{top}, Label: "crafted"})
	c.snaps = append(c.snaps, snap)
	return snap
}

// TestP152Spoilt: each object of a tree is spoilt in each way in which it may be.
func TestP152Spoilt(t *testing.T) {
	c := craft(t)
	l := tree("a!", "onethree", "a/p", "onetwoone", "a/q", "")
	snap := c.made(func(_ string, x objects.Object) api.Id { return c.add(x) })
	c.tells(snap, l, api.OK, api.OK, "all of it")
	for i, what := range parts {
		// put makes it by another function, and all others as they are.
		put := func(c crafted, other func(x objects.Object) api.Id) api.Id {
			return c.made(func(is string, x objects.Object) api.Id {
				if is == what {
					return other(x)
				}
				return c.add(x)
			})
		}
		// So of blobs that lie where it must be.
		lie := func(want api.Errno, how string, blob func(x objects.Object) []byte) {
			t.Helper()
			c := craft(t)
			snap := put(c, func(x objects.Object) api.Id {
				id := named(t, x)
				c.lay(id, blob(x))
				return id
			})
			ofIds := want
			if i < 3 {
				ofIds = api.OK // a piece isn't read
			}
			c.tells(snap, l, want, ofIds, what, how)
		}
		lie(api.OK, "as it is", func(x objects.Object) []byte { return blob(t, 99, x) })
		lie(api.ErrBroken, "not there", func(x objects.Object) []byte { return nil })
		lie(api.ErrBroken, "of another key", func(x objects.Object) []byte {
			b, _ := seal.Seal(other, x.Kind, 1, plain(t, x))
			return b
		})
		lie(api.ErrBroken, "with another bit", func(x objects.Object) []byte {
			b := blob(t, 1, x)
			b[9] ^= 1
			return b
		})
		for kind := range byte(7) {
			lie(map[bool]api.Errno{true: api.OK, false: api.ErrBroken}[kind == made(i)], "as kind "+strconv.Itoa(int(kind)), func(x objects.Object) []byte {
				b, _ := seal.Seal(ours, kind, 1, plain(t, x))
				return b
			})
		}
		lie(api.ErrBroken, "another one of its kind", func(x objects.Object) []byte {
			switch x.Kind {
			case objects.Piece:
				x.Bytes = []byte("not")
			case objects.List:
				x.Size, x.Ids = 3, []api.Id{{1}}
			case objects.Dir:
				x.Entries = []objects.Entry{at("x", api.Id{})}
			default:
				x.Label = "another one"
			}
			return blob(t, 1, x)
		})
		// Ids of what is no object, or of one of another kind.
		for _, rest := range [][]byte{{}, {0}, {5, 0}, {byte(made(i))}, {byte(made(i)), 1, 2, 3}, {3, 0, 0}} {
			c := craft(t)
			snap := put(c, func(x objects.Object) api.Id {
				b, _ := seal.Seal(ours, x.Kind, 1, rest)
				c.lay(seal.Name(ours, rest), b)
				return seal.Name(ours, rest)
			})
			want := api.ErrBroken
			if i < 3 {
				want = api.OK
			}
			c.tells(snap, nil, api.ErrBroken, want, what, "no object")
		}
		for kind, x := range []objects.Object{{Kind: 1}, {Kind: 2}, {Kind: 3, Entries: []objects.Entry{in("u", api.Id{1})}}, {Kind: 4, Ids: []api.Id{{2}}}} {
			if byte(kind+1) == made(i) {
				continue
			}
			c := craft(t)
			snap := put(c, func(objects.Object) api.Id { return c.add(x) })
			want := api.ErrBroken
			if i < 3 {
				want = api.OK
			}
			c.tells(snap, nil, api.ErrBroken, want, what, "of kind", kind+1)
		}
		// No place, no pack, no such blob.
		c := craft(t)
		snap := put(c, func(x objects.Object) api.Id { return named(t, x) })
		if i < 3 {
			c.tells(snap, nil, api.ErrNone, api.OK, what, "without a place")
		} else {
			c.tells(snap, nil, api.ErrNone, api.ErrNone, what, "without a place")
		}
		for _, n := range []int{0, 1, 2, 1023} {
			c := craft(t)
			snap := put(c, func(x objects.Object) api.Id {
				pack := c.lay(api.Id{77}, blob(t, 4, x))
				c.spots = append(c.spots, spot{named(t, x), pack, n})
				return named(t, x)
			})
			switch {
			case n == 0:
				c.tells(snap, l, api.OK, api.OK, what, "the first")
			case i < 3:
				c.tells(snap, nil, api.ErrBroken, api.OK, what, "no such blob")
			default:
				c.tells(snap, nil, api.ErrBroken, api.ErrBroken, what, "no such blob")
			}
		}
		for _, b := range [][]byte{nil, {0}, {1}, []byte("no pack"), append(packed(t, blob(t, 1, objects.Object{Kind: objects.Dir})), 0)} {
			c := craft(t)
			snap := put(c, func(x objects.Object) api.Id {
				c.there[packs.Id(b)] = b
				c.spots = append(c.spots, spot{named(t, x), packs.Id(b), 0})
				return named(t, x)
			})
			want := api.ErrBroken
			if i < 3 {
				want = api.OK
			}
			c.tells(snap, nil, api.ErrBroken, want, what, "no pack")
		}
	}
}

// made is the kind of the i-th of parts.
func made(i int) byte { return []byte{1, 1, 1, 2, 2, 3, 2, 3, 3, 4}[i] }

// TestP152First: of several errors of reading the first one is told, top down, names rising; behind all of them what is of another kind.
func TestP152First(t *testing.T) {
	order := []struct{ what, above string }{
		{"snap", ""}, {"top", "snap"}, {"a", "top"}, {"p", "a"}, {"one", "p"}, {"two", "p"}, {"q", "a"},
		{"bang", "top"}, {"one", "bang"}, {"three", "bang"}, {"e", "top"},
	}
	r := rand.New(rand.NewSource(152))
	told := map[api.Errno]int{}
	for range 1000 {
		how := map[string]int{}
		for _, what := range parts {
			how[what] = max(0, r.Intn(20)-16)
		}
		c := craft(t)
		snap := c.made(func(what string, x objects.Object) api.Id {
			switch {
			case how[what] == 1:
				return named(t, x) // no place
			case how[what] == 2:
				c.lay(named(t, x), nil) // no bytes
				return named(t, x)
			case how[what] == 3 && x.Kind == objects.Piece:
				return c.add(objects.Object{Kind: objects.Snap, Ids: []api.Id{{9}}})
			case how[what] == 3:
				return c.add(objects.Object{Kind: objects.Piece, Bytes: []byte(what)})
			}
			return c.add(x)
		})
		first := func(pieces bool) api.Errno {
			odd := api.OK
			come := map[string]struct{}{"": {}}
			for _, x := range order {
				piece := slices.Index(parts, x.what) < 3
				if _, is := come[x.above]; !is || piece && !pieces {
					continue
				}
				switch how[x.what] {
				case 1:
					return api.ErrNone
				case 2:
					return api.ErrBroken
				case 3:
					odd = api.ErrBroken
				default:
					come[x.what] = struct{}{}
				}
			}
			return odd
		}
		c.tells(snap, tree("a!", "onethree", "a/p", "onetwoone", "a/q", ""), first(true), first(false), how)
		told[first(true)]++
	}
	if told[api.OK] < 20 || told[api.ErrNone] < 100 || told[api.ErrBroken] < 100 {
		t.Error("too few of one kind:", told)
	}
}

// TestP152Kinds: what is of another kind isn't gone into; what can't be read is told ahead of it, wherever it stands.
func TestP152Kinds(t *testing.T) {
	for _, missing := range []bool{false, true} {
		c := craft(t)
		last, want := c.text("text"), api.ErrBroken
		if missing {
			last, want = api.Id{5}, api.ErrNone
		}
		gone := c.dir(at("x", api.Id{6}))
		for i, first := range []objects.Entry{
			at("a", c.dir()), at("a", gone), at("a", c.piece("x")), at("a", c.snap(api.Id{6})),
			in("a", c.text("x")), in("a", c.list(1, api.Id{6})), in("a", c.piece("x")), in("a", c.snap(api.Id{6})),
		} {
			c.tells(c.snap(c.dir(first, at("b", last))), nil, want, want, "name", i, missing)
		}
		// Pieces are no concern of Objects.
		for i, id := range []api.Id{c.dir(), gone, c.text("x"), c.list(1, api.Id{6}), c.snap(api.Id{6})} {
			snap := c.snap(c.dir(at("a", c.list(1, id)), at("b", last)))
			if missing {
				c.tells(snap, nil, want, want, "piece", i)
			} else {
				c.tells(snap, nil, want, api.OK, "piece", i)
			}
		}
		for i, top := range []api.Id{c.text("x"), c.piece("x"), c.snap(api.Id{6})} {
			c.tells(c.snap(top), nil, api.ErrBroken, api.ErrBroken, "top", i)
		}
	}
	// What is no object, and was sealed under no kind, can't be read: it isn't one of another kind.
	d := craft(t)
	rest := []byte("no object")
	b, _ := seal.Seal(ours, 0, 1, rest)
	d.lay(seal.Name(ours, rest), b)
	for _, first := range []objects.Entry{at("a", seal.Name(ours, rest)), in("a", seal.Name(ours, rest))} {
		d.tells(d.snap(d.dir(first, at("b", api.Id{5}))), nil, api.ErrBroken, api.ErrBroken, "no object", first.Dir)
	}
	// One that was read as what it is, and is named as a piece, too: it has no bytes, so that the size is right.
	empty, text := d.dir(), d.text("x")
	for _, l := range [][]objects.Entry{
		{in("a", empty), at("b", d.list(1, empty, d.piece("x")))},
		{at("a", text), at("b", d.list(1, text, d.piece("x")))},
		{at("a", text), at("b", d.list(1, d.piece("x"), text))},
	} {
		d.tells(d.snap(d.dir(l...)), nil, api.ErrBroken, api.OK, "a piece that was read")
	}
	// One that is of the wrong kind at one name, and of the right one at another.
	c := craft(t)
	for _, below := range []api.Id{c.text("x"), {6}} {
		d := c.dir(at("x", below))
		want := api.ErrBroken
		if below == (api.Id{6}) {
			want = api.ErrNone
		}
		c.tells(c.snap(c.dir(at("a", d), in("b", d))), nil, want, want, "first wrong")
		c.tells(c.snap(c.dir(in("a", d), at("b", d))), nil, want, want, "first right")
	}
}

// TestP152Sizes: a file's pieces must have its size.
func TestP152Sizes(t *testing.T) {
	c := craft(t)
	one, none, three := c.piece("1"), c.piece(""), c.piece("333")
	for _, x := range []struct {
		size int
		text string
		l    []api.Id
	}{
		{1, "1", []api.Id{one}}, {1, "1", []api.Id{none, one, none}}, {3, "333", []api.Id{three}}, {5, "33311", []api.Id{three, one, one}}, {0, "", nil},
		{2, "1", []api.Id{one}}, {1, "", []api.Id{none}}, {2, "333", []api.Id{three}}, {4, "333", []api.Id{three}}, {1 << 20, "1", []api.Id{one}}, {257, "1", []api.Id{one}},
	} {
		want := api.OK
		if x.size != len(x.text) {
			want = api.ErrBroken
		}
		snap := c.snap(c.dir(at("a", c.list(x.size, x.l...)), at("b", c.text("text"))))
		c.tells(snap, tree("a", x.text, "b", "text"), want, api.OK, x.size, x.text)
		// What can't be read is told ahead of it.
		snap = c.snap(c.dir(at("a", c.list(x.size, x.l...)), at("b", api.Id{7})))
		c.tells(snap, nil, api.ErrNone, api.ErrNone, x.size, x.text)
	}
	// A file of 2^20 bytes is one still, and its pieces may be more.
	big := c.add(objects.Object{Kind: objects.Piece, Bytes: make([]byte, 1<<15)})
	l := slices.Repeat([]api.Id{big}, 32)
	c.tells(c.snap(c.dir(at("a", c.list(1<<20, l...)))), []files.File{{Path: "a", Bytes: make([]byte, 1<<20)}}, api.OK, api.OK, "2^20 bytes")
	l = slices.Repeat([]api.Id{big}, 64)
	c.tells(c.snap(c.dir(at("a", c.list(1<<20, l...)))), nil, api.ErrBroken, api.OK, "more bytes")
}

// TestP152NoTree: objects that are all there, of which no tree comes.
func TestP152NoTree(t *testing.T) {
	c := craft(t)
	text := c.text("text")
	for _, n := range []int{253, 254, 255} {
		name := strings.Repeat("n", n)
		want := api.OK
		if n+2 > 255 {
			want = api.ErrBroken
		}
		c.tells(c.snap(c.dir(in("d", c.dir(at(name, text))))), tree("d/"+name, "text"), want, api.OK, n, "bytes of a name")
		c.tells(c.snap(c.dir(in(name, c.dir(at("d", text))))), tree(name+"/d", "text"), want, api.OK, n, "bytes of a directory's")
		// A directory that no file stands in is no path.
		c.tells(c.snap(c.dir(at("e", text), in(name, c.dir(in(name, c.dir()))))), tree("e", "text"), api.OK, api.OK, "directories alone")
	}
	deep := c.dir(at("f", text))
	for range 127 {
		deep = c.dir(in("d", deep))
	}
	c.tells(c.snap(deep), tree(strings.Repeat("d/", 127)+"f", "text"), api.OK, api.OK, "deep")
	c.tells(c.snap(c.dir(in("d", deep))), nil, api.ErrBroken, api.OK, "deeper")
	// Too many bytes, all together.
	big := c.add(objects.Object{Kind: objects.Piece, Bytes: make([]byte, 1<<15)})
	whole := c.list(1<<20, slices.Repeat([]api.Id{big}, 32)...)
	for n := 15; n < 18; n++ {
		var l []objects.Entry
		var all []files.File
		for i := range n {
			l = append(l, at(strconv.Itoa(10+i), whole))
			all = append(all, files.File{Path: strconv.Itoa(10 + i), Bytes: make([]byte, 1<<20)})
		}
		want := api.OK
		if n > 16 {
			want = api.ErrBroken
		}
		snap := c.snap(c.dir(append(l, at("x", c.list(0)))...))
		more := c.snap(c.dir(append(l, at("x", c.text("x")))...))
		r := c.repo(t)
		if got, _, err := r.Restore(snap); err != want || err == api.OK && !files.Same(got, append(all, files.File{Path: "x"})) {
			t.Error(n, "great files tell", len(got), err)
		}
		if n > 15 {
			want = api.ErrBroken
		}
		if got, _, err := r.Restore(more); err != want || err == api.OK && !files.Same(got, append(all, file("x", "x"))) {
			t.Error(n, "great files, and a byte, tell", len(got), err)
		}
	}
}

// TestP152Files: a tree has at most 65536 files.
func TestP152Files(t *testing.T) {
	for _, n := range []int{65536, 65537} {
		c := craft(t)
		var l []objects.Entry
		empty := c.list(0)
		for i := range 256 {
			l = append(l, at(strconv.Itoa(1000+i), empty))
		}
		d := c.dir(l...)
		var top []objects.Entry
		for i := range 256 {
			top = append(top, in(strconv.Itoa(1000+i), d))
		}
		if n > 65536 {
			top = append(top, at("x", empty))
		}
		snap := c.snap(c.dir(top...))
		r := c.repo(t)
		got, _, err := r.Restore(snap)
		if n > 65536 && (err != api.ErrBroken || got != nil) || n == 65536 && (err != api.OK || len(got) != n || files.Check(got) != api.OK) {
			t.Error(n, "files:", len(got), err)
		}
		if ids, err := r.Objects(snap); err != api.OK || len(ids) != 4 {
			t.Error(n, "files:", ids, err)
		}
	}
}

// TestP152Ends: few objects, of which very many names, or very long paths, come.
func TestP152Ends(t *testing.T) {
	for _, c := range []struct {
		what  string
		begin func(c crafted) api.Id
		more  []string
		n     int
		want  api.Errno
	}{
		{"twice as many empty directories", func(c crafted) api.Id { return c.dir() }, []string{"a", "b"}, 200, api.OK},
		{"twice as many files", func(c crafted) api.Id { return c.dir(at("x", c.list(0))) }, []string{"a", "b"}, 100, api.ErrBroken},
		{"twice as many files, too deep", func(c crafted) api.Id { return c.dir(at("x", c.list(0))) }, []string{"a", "b"}, 300, api.ErrBroken},
		{"twice as many great files", func(c crafted) api.Id {
			big := c.add(objects.Object{Kind: objects.Piece, Bytes: make([]byte, 1<<15)})
			return c.dir(at("x", c.list(1<<20, slices.Repeat([]api.Id{big}, 32)...)))
		}, []string{"a", "b"}, 15, api.ErrBroken},
		{"deep, without a file", func(c crafted) api.Id { return c.dir() }, []string{strings.Repeat("n", 255)}, 1000, api.OK},
		{"deep, with a file", func(c crafted) api.Id { return c.dir(at("x", c.list(0))) }, []string{strings.Repeat("n", 255)}, 1000, api.ErrBroken},
	} {
		m := craft(t)
		d := c.begin(m)
		for range c.n {
			var l []objects.Entry
			for _, name := range c.more {
				l = append(l, in(name, d))
			}
			d = m.dir(l...)
		}
		snap := m.snap(d)
		r := m.repo(t)
		l, _, err := r.Restore(snap)
		if err != c.want || len(l) > 0 {
			t.Error(c.what, "is restored:", len(l), err)
		}
		if ids, err := r.Objects(snap); err != api.OK || len(ids) != len(m.spots) {
			t.Error(c.what, "has", len(ids), "objects of", len(m.spots), err)
		}
	}
}

// TestP152Objects: each id once, in the order in which it comes up first, pieces too.
func TestP152Objects(t *testing.T) {
	c := craft(t)
	one, two, three := c.piece("one"), c.piece("two"), c.piece("three")
	x, y, z := c.list(6, two, one), c.list(13, one, three, three), c.list(0)
	inner := c.dir(at("x", x), at("z", z))
	a := c.dir(at("b", y), in("c", inner))
	top := c.dir(in("a", a), at("a!", x), in("b", inner), in("c", a), at("d", y))
	snap := c.snap(top)
	l := tree("a!", "twoone", "a/b", "onethreethree", "a/c/x", "twoone", "a/c/z", "", "b/x", "twoone", "b/z", "", "c/b", "onethreethree", "c/c/x", "twoone", "c/c/z", "", "d", "onethreethree")
	want := []api.Id{snap, top, a, y, one, three, inner, x, two, z}
	c.tells(snap, l, api.OK, api.OK, "all of it")
	names(t, c.repo(t), snap, want, api.OK)
	// Pieces aren't read, whatever is, or isn't, there.
	for _, id := range []api.Id{one, two, three} {
		d := crafted{c.copied(), t}
		s, _ := d.spot(id)
		delete(d.there, s.pack)
		names(t, d.repo(t), snap, want, api.OK)
		restores(t, d.repo(t), snap, nil, "", api.ErrBroken)
		d.away(id)
		names(t, d.repo(t), snap, want, api.OK)
		restores(t, d.repo(t), snap, nil, "", api.ErrNone)
	}
	// What is told as a piece is read, where it is a directory.
	c = craft(t)
	d := c.dir(at("f", c.list(0)))
	list := c.list(1, d)
	snap = c.snap(c.dir(at("a", list), in("b", d)))
	m, _ := c.repo(t).Objects(snap)
	if len(m) != 5 || m[2] != list || m[3] != d || m[4] != c.list(0) {
		t.Errorf("Objects are %x", m)
	}
	c.away(c.list(0))
	names(t, c.repo(t), snap, nil, api.ErrNone)
}
