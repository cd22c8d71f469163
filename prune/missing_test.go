package prune_test

import (
	"slices"
	"testing"

	"bailee/api"
	"bailee/objects"
	"bailee/packs"
	"bailee/prune"
	"bailee/repo"
)

// --- P16.3: Broken

func TestP163Nothing(t *testing.T) {
	is(t, "Broken of nil", prune.Broken(nil), api.OK, nil, api.OK)
	is(t, "Missing of nil", prune.Missing(nil), api.OK, nil, api.OK)
	for what, r := range hardly(t) {
		is(t, "Broken of a repo "+what, prune.Broken(r), api.OK, nil, api.OK)
		is(t, "Missing of a repo "+what, prune.Missing(r), api.OK, nil, api.OK)
	}
	r := fresh(t, 300)
	snap, news := backs(t, r, "one", "a", "some text", "b/c", "another text")
	is(t, "Broken", prune.Broken(r), api.OK, nil, api.OK)
	is(t, "Missing", prune.Missing(r), api.OK, nil, api.OK)
	// No snapshot needs what is lost.
	r.Forget(snap)
	for _, pack := range news {
		r.Lose(pack)
	}
	is(t, "Broken without snapshots", prune.Broken(r), api.OK, nil, api.OK)
	is(t, "Missing without snapshots", prune.Missing(r), api.OK, nil, api.OK)
}

// TestP163Broken: of five snapshots each one is broken or not, each in a way of its own.
func TestP163Broken(t *testing.T) {
	m := bare(t)
	text := objects.Object{Kind: objects.Piece, Bytes: []byte{1, 2, 3}}
	piece, _ := m.named(text)
	own := m.lay(text)
	none, _ := m.snap("no files")
	// A file's size is how many pieces it has: one, of three bytes.
	size, _ := m.snap("another size", []api.Id{piece})
	three, _ := m.snap("three pieces", []api.Id{{8}, {7}, {6}})
	place, lost := m.snap("a pack that is lost", []api.Id{piece, piece, piece})
	m.lay(objects.Object{Kind: objects.Piece, Bytes: []byte("x")})
	whole, _ := m.named(objects.Object{Kind: objects.Piece, Bytes: []byte("x")})
	good, _ := m.snap("a file", []api.Id{whole}, []api.Id{whole, whole})
	delete(m.there, lost)
	for _, x := range []struct {
		snaps, want []api.Id
	}{
		{[]api.Id{none, size, three, place, good}, []api.Id{size, three, place}},
		{[]api.Id{place, good, three, none, size}, []api.Id{place, three, size}},
		{[]api.Id{none, good}, nil},
		{[]api.Id{size}, []api.Id{size}},
		{[]api.Id{three, good, three, size, three}, []api.Id{three, three, size, three}},
		{[]api.Id{{}, {1}, none, piece}, []api.Id{{}, {1}, piece}},
	} {
		m.snaps = x.snaps
		r := m.repo()
		is(t, "Broken", prune.Broken(r), api.OK, x.want, api.OK)
		is(t, "Snaps", r.Snaps(), api.OK, x.snaps, api.OK)
		asks(t, r, 50)
	}
	// What is needed of no pack may be lost.
	m.snaps = []api.Id{none, size, good}
	r := m.repo()
	r.Lose(own)
	is(t, "Broken", prune.Broken(r), api.OK, []api.Id{size}, api.OK)
}

// TestP163Given: what is lost, and given again, breaks snapshots, and mends them.
func TestP163Given(t *testing.T) {
	r := fresh(t, 300)
	one, first := backs(t, r, "one", "a", "some text", "b/c", "another text")
	two, other := backs(t, r, "two", "d", "nothing of it")
	three, last := backs(t, r, "three", "a", "some text", "b/c", "another text")
	if len(first) < 3 || len(other) < 1 || len(last) != 1 {
		t.Fatal(len(first), len(other), len(last))
	}
	for _, x := range []struct{ packs, snaps []api.Id }{
		{first, []api.Id{one, three}}, {other, []api.Id{two}}, {last, []api.Id{three}},
	} {
		for _, pack := range x.packs {
			b, _ := r.Pack(pack)
			r.Lose(pack)
			if got := prune.Broken(r); len(got) == 0 || !slices.Contains(got, x.snaps[len(x.snaps)-1]) && !slices.Contains(got, x.snaps[0]) {
				t.Error("Broken are", short(got))
			}
			asks(t, r, 50)
			r.Give(b)
			is(t, "Broken", prune.Broken(r), api.OK, nil, api.OK)
		}
	}
}

// --- P16.3: Missing

// TestP163Missing: packs that some snapshot needs, and whose bytes aren't there.
func TestP163Missing(t *testing.T) {
	m := bare(t)
	a, b, c := ids(1, 3), ids(2, 2), ids(3, 2)
	high, low, none, foreign := api.Id{255}, api.Id{2}, api.Id{}, api.Id{4}
	m.place(high, a...)
	m.place(low, b...)
	m.place(none, c...)
	m.place(foreign, ids(4, 5)...)
	one, _ := m.snap("one", a[2:], []api.Id{{9}, b[1]})
	two, own := m.snap("two", b, a)
	three, _ := m.snap("three", c[:1])
	four, _ := m.snap("four", []api.Id{{9}, foreign, high})
	for _, x := range []struct{ snaps, want, lost []api.Id }{
		{[]api.Id{one}, []api.Id{low, high}, []api.Id{low, high}},
		{[]api.Id{two}, []api.Id{low, high}, []api.Id{own}},
		{[]api.Id{three}, []api.Id{none}, []api.Id{none}},
		{[]api.Id{four}, nil, nil},
		{[]api.Id{three, one, two, four}, []api.Id{none, low, high}, []api.Id{none, low, own, high}},
		{[]api.Id{four, two, three, three}, []api.Id{none, low, high}, []api.Id{none, own}},
		{nil, nil, nil},
	} {
		m.snaps = x.snaps
		r := m.repo()
		is(t, "Missing", prune.Missing(r), api.OK, x.want, api.OK)
		asks(t, r, 50)
		// Without the second one's own it alone is needed.
		r.Lose(own)
		is(t, "Missing", prune.Missing(r), api.OK, sorted(x.lost...), api.OK)
		asks(t, r, 50)
	}
}

// TestP163Alone: of a snapshot that can't be gone through it alone is needed, of the others all.
func TestP163Alone(t *testing.T) {
	m := bare(t)
	pieces := ids(1, 3)
	far := api.Id{77}
	m.place(far, pieces...)
	l := m.tree("apart", pieces)
	list, dir, top := m.lay(l[0]), m.lay(l[1]), m.lay(l[2])
	snap := m.idsOf(l)[2]
	other, _ := m.snap("other", pieces[:1])
	wrong := objects.Object{Kind: objects.Snap, Size: 1, Ids: m.idsOf(l)[:1], Label: "wrong"}
	kind, _ := m.named(wrong)
	m.lay(wrong)
	for _, x := range []struct {
		what              string
		snaps, lost, want []api.Id
	}{
		{"all is there", []api.Id{snap}, nil, []api.Id{far}},
		{"its own pack isn't", []api.Id{snap}, []api.Id{top}, []api.Id{top}},
		{"none is", []api.Id{snap}, []api.Id{top, dir, list}, []api.Id{top}},
		{"what is below isn't", []api.Id{snap}, []api.Id{dir}, nil},
		{"none below is", []api.Id{snap}, []api.Id{dir, list}, nil},
		{"a list isn't", []api.Id{snap}, []api.Id{list}, nil},
		{"a list isn't, and another one needs its piece", []api.Id{snap, other}, []api.Id{list}, []api.Id{far}},
		{"nor is its own, ahead", []api.Id{snap, other}, []api.Id{top}, []api.Id{top, far}},
		{"nor is its own, behind", []api.Id{other, snap}, []api.Id{top, list}, []api.Id{top, far}},
		{"it has no place", []api.Id{{6}}, []api.Id{top, dir, list}, nil},
		{"it has no place, others do", []api.Id{{6}, snap, other, {}}, []api.Id{top}, []api.Id{top, far}},
		{"it is what no snapshot is", []api.Id{pieces[2]}, nil, []api.Id{far}},
		{"of another kind, and there", []api.Id{kind}, []api.Id{list}, nil},
		{"of another kind, below", []api.Id{kind}, nil, nil},
		{"of another kind itself", m.idsOf(l)[:2], nil, nil},
		{"of another kind itself, and lost", m.idsOf(l)[:2], []api.Id{dir}, []api.Id{dir}},
	} {
		m.snaps = x.snaps
		r := m.repo()
		for _, pack := range x.lost {
			if !r.Lose(pack) {
				t.Error(x.what, "but it was lost before")
			}
		}
		is(t, "Missing, as "+x.what+",", prune.Missing(r), api.OK, sorted(x.want...), api.OK)
		asks(t, r, 50)
	}
}

// TestP163Place: what has no place is in no pack, also if there is one whose id is noughts.
func TestP163Place(t *testing.T) {
	m := bare(t)
	m.place(api.Id{}, api.Id{7})
	m.snap("snap", []api.Id{{9}, {}})
	m.snaps = append(m.snaps, api.Id{8})
	r := m.repo()
	is(t, "Missing", prune.Missing(r), api.OK, nil, api.OK)
	asks(t, r, 50)
	m.snap("more", []api.Id{{9}, {7}})
	is(t, "Missing", prune.Missing(m.repo()), api.OK, []api.Id{{}}, api.OK)
}

// TestP163Again: a repo that is got has all again when what is missing was given, till nothing is.
func TestP163Again(t *testing.T) {
	r := fresh(t, 300)
	_, news := backs(t, r, "one", "a", "some text", "b/c", "another text")
	x, err := repo.Get(ours, config(300), r.Put())
	if err != api.OK {
		t.Fatal("repo.Get tells", err)
	}
	turns := 0
	for l := prune.Missing(x); len(l) > 0 && turns < 99; l = prune.Missing(x) {
		b, _ := r.Pack(l[0])
		if got := x.Give(b); got != api.OK {
			t.Fatal("Give tells", got)
		}
		asks(t, x, 50)
		turns++
	}
	if turns == 0 || turns > len(news) {
		t.Error(turns, "packs are given of", len(news))
	}
}

// TestP163Empty: a pack of no bytes is there, if it was given.
func TestP163Empty(t *testing.T) {
	m := bare(t)
	none := packs.Id(nil)
	m.place(none, api.Id{5})
	m.snap("snap", []api.Id{{5}})
	r := m.repo()
	is(t, "Missing", prune.Missing(r), api.OK, []api.Id{none}, api.OK)
	if err := r.Give(nil); err != api.OK {
		t.Fatal("Give tells", err)
	}
	is(t, "Missing", prune.Missing(r), api.OK, nil, api.OK)
	is(t, "Broken", prune.Broken(r), api.OK, m.snaps, api.OK)
}
