package prune_test

import (
	"bytes"
	"math"
	"slices"
	"strconv"
	"strings"
	"testing"

	"bailee/api"
	"bailee/files"
	"bailee/objects"
	"bailee/packs"
	"bailee/prune"
	"bailee/repo"
	"bailee/seal"
)

// every are all percents.
func every() []int {
	var l []int
	for percent := range 101 {
		l = append(l, percent)
	}
	return l
}

// fresh is a repo that is new.
func fresh(t *testing.T, pack int) *repo.Repo {
	t.Helper()
	r, err := repo.New(ours, config(pack))
	if err != api.OK {
		t.Fatal("repo.New tells", err)
	}
	return r
}

// backs makes a snapshot of paths and texts, by turns; its id, and the new packs.
func backs(t *testing.T, r *repo.Repo, label string, l ...string) (api.Id, []api.Id) {
	t.Helper()
	var tree []files.File
	for i := 0; i < len(l); i += 2 {
		tree = append(tree, files.File{Path: l[i], Bytes: []byte(l[i+1])})
	}
	snap, news, err := r.Backup(tree, label)
	if err != api.OK {
		t.Fatal("Backup tells", err)
	}
	return snap, news
}

// idsOf are what some objects are known by.
func (m *making) idsOf(l []objects.Object) []api.Id {
	m.t.Helper()
	var ids []api.Id
	for _, x := range l {
		id, _ := m.named(x)
		ids = append(ids, id)
	}
	return ids
}

// hardly are repos of which nothing is to be told.
func hardly(t *testing.T) map[string]*repo.Repo {
	return map[string]*repo.Repo{"new": fresh(t, 1000), "that New didn't make": {}, "got": bare(t).repo()}
}

// --- P16.1

func TestP161Nothing(t *testing.T) {
	l, err := prune.Needed(nil)
	is(t, "Needed of nil", l, err, nil, api.ErrArg)
	for what, r := range hardly(t) {
		l, err := prune.Needed(r)
		is(t, "Needed of a repo "+what, l, err, nil, api.OK)
	}
	r := fresh(t, 1000)
	snap, _ := backs(t, r, "one", "a", "some text")
	r.Forget(snap)
	l, err = prune.Needed(r)
	is(t, "Needed without snapshots", l, err, nil, api.OK)
}

// TestP161Needed: of snapshots that share objects, all are told, rising, each once.
func TestP161Needed(t *testing.T) {
	m := bare(t)
	a, b, c := ids(1, 3), ids(2, 300), ids(3, 2)
	one, two, three := m.tree("one", a, b), m.tree("two", slices.Concat(c, b[:7]), a), m.tree("three")
	for _, l := range [][]objects.Object{one, two[1:], three} {
		m.lay(l...)
	}
	// A list that stands in two trees has one place; the third list of two is its own.
	m.lay(two[0])
	m.place(api.Id{9}, b[:3]...)
	want := joined(m.idsOf(one), m.idsOf(two), m.idsOf(three), a, b, c)
	want = slices.Compact(want)
	if n := 4 + 4 + 2 + 3 + 300 + 2 - 1; len(want) != n {
		t.Fatal(len(want), "objects, not", n)
	}
	for _, snaps := range [][]int{{0, 1, 2}, {2, 1, 0}, {1, 0, 2, 1, 1}} {
		m.snaps = nil
		for _, i := range snaps {
			l := [][]objects.Object{one, two, three}[i]
			m.snaps = append(m.snaps, m.idsOf(l)[len(l)-1])
		}
		r := m.repo()
		got, err := prune.Needed(r)
		is(t, "Needed", got, err, want, api.OK)
		asks(t, r, 0, 1, 50, 100)
	}
	m.snaps = m.snaps[:1]
	got, err := prune.Needed(m.repo())
	is(t, "Needed of one", got, err, joined(m.idsOf(two), a, b[:7], c), api.OK)
	m.snaps = nil
	got, err = prune.Needed(m.repo())
	is(t, "Needed of none", got, err, nil, api.OK)
}

// TestP161Rising: ids differ at any of their bytes, which are of any worth.
func TestP161Rising(t *testing.T) {
	var l []api.Id
	for k := range 32 {
		for _, c := range []byte{1, 127, 128, 255} {
			var low, high api.Id
			low[k] = c
			for i := range high {
				high[i] = 255
			}
			high[k] = c - 1
			l = append(l, low, high)
		}
	}
	m := bare(t)
	m.snap("one", l, l)
	m.snap("two", slices.Concat([]api.Id{{}}, l[:99]))
	got, err := prune.Needed(m.repo())
	if err != api.OK || len(got) < len(l)+7 {
		t.Fatal(len(got), err)
	}
	for i, id := range got[1:] {
		if bytes.Compare(got[i][:], id[:]) >= 0 {
			t.Errorf("%x is told ahead of %x", got[i], id)
		}
	}
	for _, id := range append(l, api.Id{}) {
		if !slices.Contains(got, id) {
			t.Errorf("%x isn't told", id)
		}
	}
	asks(t, m.repo(), 0, 50)
}

// TestP161First: of all that may be wrong the first snapshot's error is told.
func TestP161First(t *testing.T) {
	m := bare(t)
	good, _ := m.snap("good", ids(1, 2))
	away, broken := api.Id{3}, api.Id{4}
	m.place(api.Id{5}, broken)
	lost := m.tree("lost")
	m.lay(lost[1])
	below := m.idsOf(lost)[1]
	list := objects.Object{Kind: objects.List}
	id, _ := m.named(list)
	odd := objects.Object{Kind: objects.Snap, Size: 1, Ids: []api.Id{id}}
	m.lay(list, odd)
	kind := m.idsOf([]objects.Object{odd})[0]
	for _, x := range []struct {
		snaps []api.Id
		want  api.Errno
	}{
		{[]api.Id{good, away, broken}, api.ErrNone},
		{[]api.Id{good, broken, away}, api.ErrBroken},
		{[]api.Id{away, broken, good}, api.ErrNone},
		{[]api.Id{broken, good, away}, api.ErrBroken},
		{[]api.Id{below, broken}, api.ErrNone},
		{[]api.Id{kind, below}, api.ErrBroken},
		{[]api.Id{good, good, below, good}, api.ErrNone},
		{[]api.Id{kind}, api.ErrBroken},
		{[]api.Id{api.Id{}}, api.ErrNone},
		{[]api.Id{good}, api.OK},
	} {
		m.snaps = x.snaps
		r := m.repo()
		l, err := prune.Needed(r)
		if err != x.want || (l == nil) != (err != api.OK) {
			t.Errorf("%s tells %s, %v, not %v", short(x.snaps), short(l), err, x.want)
		}
		if l, err := prune.Plan(r, 50); err != x.want || err != api.OK && l != nil {
			t.Errorf("Plan of %s tells %s, %v, not %v", short(x.snaps), short(l), err, x.want)
		}
		asks(t, r, -1, 0, 50, 101)
		prunes(t, r, m.pack, 50)
	}
}

// --- P16.2: Plan

// TestP162All is the chapter's example.
func TestP162All(t *testing.T) {
	r := fresh(t, 200)
	var all []api.Id
	for _, label := range []string{"one", "two", "three"} {
		snap, news := backs(t, r, label, "a", "some text that is cut", "b/"+label, label)
		all = append(all, news...)
		r.Forget(snap)
	}
	if len(all) < 5 {
		t.Fatal(len(all), "packs")
	}
	for _, percent := range every() {
		l, err := prune.Plan(r, percent)
		is(t, "Plan without snapshots", l, err, sorted(all...), api.OK)
	}
	// Whatever they have, and whether their bytes are there.
	m := bare(t)
	m.place(api.Id{}, ids(1, 1)...)
	m.place(api.Id{8}, ids(2, 9)...)
	m.place(api.Id{7}, api.Id{})
	for _, percent := range every() {
		l, err := prune.Plan(m.repo(), percent)
		is(t, "Plan without bytes", l, err, []api.Id{{}, {7}, {8}}, api.OK)
	}
	for what, r := range hardly(t) {
		for _, percent := range every() {
			l, err := prune.Plan(r, percent)
			is(t, "Plan of a repo "+what, l, err, nil, api.OK)
		}
	}
}

// TestP162Percent: packs of which so many objects are needed, at each percent.
func TestP162Percent(t *testing.T) {
	m := bare(t)
	type part struct{ k, n int }
	of := map[api.Id]part{}
	var needed []api.Id
	for n := 1; n <= 12; n++ {
		for k := 0; k <= n; k++ {
			pack, l := api.Id{byte(k), byte(n)}, ids(byte(16*n+k), n)
			m.place(pack, l...)
			of[pack] = part{k, n}
			// Which of them is the same.
			for i := range k {
				needed = append(needed, l[(i*13+k)%n])
			}
		}
	}
	_, own := m.snap("snap", needed)
	r := m.repo()
	for _, percent := range every() {
		var want []api.Id
		for pack, x := range of {
			// So many hundredths of an n-th.
			if got := slices.Repeat([]int{100}, x.k); x.k == 0 || sum(got) < percent*x.n {
				want = append(want, pack)
			}
		}
		if slices.Contains(want, own) {
			t.Error("the snapshot's own pack is another one's")
		}
		l, err := prune.Plan(r, percent)
		is(t, "Plan at "+strconv.Itoa(percent), l, err, sorted(want...), api.OK)
	}
	asks(t, r, every()...)
}

// sum is all numbers together.
func sum(l []int) int {
	n := 0
	for _, x := range l {
		n += x
	}
	return n
}

// TestP162Edges: by hand, just as many as there must be, and one more or less.
func TestP162Edges(t *testing.T) {
	for _, x := range []struct {
		k, n, percent int
		goes          bool
	}{
		{0, 1, 0, true}, {0, 1, 1, true}, {0, 1, 100, true}, {0, 1024, 0, true}, {0, 1024, 100, true},
		{1, 1, 0, false}, {1, 1, 1, false}, {1, 1, 99, false}, {1, 1, 100, false},
		{1, 2, 49, false}, {1, 2, 50, false}, {1, 2, 51, true}, {1, 2, 0, false},
		{1, 3, 33, false}, {1, 3, 34, true}, {2, 3, 66, false}, {2, 3, 67, true}, {2, 3, 100, true},
		{1, 99, 1, false}, {1, 100, 1, false}, {1, 101, 1, true}, {1, 101, 0, false}, {2, 200, 1, false}, {2, 201, 1, true},
		{99, 100, 99, false}, {99, 100, 100, true}, {98, 100, 99, true}, {100, 100, 100, false},
		{1023, 1024, 99, false}, {1023, 1024, 100, true}, {1013, 1024, 99, true}, {1014, 1024, 99, false}, {1024, 1024, 100, false},
		{10, 1024, 1, true}, {11, 1024, 1, false}, {511, 1024, 50, true}, {512, 1024, 50, false}, {513, 1024, 50, false},
		{1, 1024, 0, false}, {400, 1024, 1, false}, {1024, 1024, 0, false}, {1, 3000, 100, true}, {3000, 3000, 1, false}, {300, 3000, 10, false}, {299, 3000, 10, true}, {1000, 3000, 33, false}, {1000, 3000, 34, true},
	} {
		m := bare(t)
		m.pack = 1 << 20
		l := ids(1, x.n)
		m.place(api.Id{1, 2, 3}, l...)
		for i := range m.spots {
			m.spots[i].n %= 1024
		}
		for i := range x.k/1000 + 1 {
			m.snap("snap", l[i*1000:min(i*1000+1000, x.k)])
		}
		var want []api.Id
		if x.goes {
			want = []api.Id{{1, 2, 3}}
		}
		got, err := prune.Plan(m.repo(), x.percent)
		is(t, "Plan of "+strconv.Itoa(x.k)+" of "+strconv.Itoa(x.n)+" at "+strconv.Itoa(x.percent), got, err, want, api.OK)
	}
}

func TestP162Arg(t *testing.T) {
	m := bare(t)
	m.snap("good", ids(1, 2))
	good := m.repo()
	m.snaps = append(m.snaps, api.Id{3})
	for what, r := range map[string]*repo.Repo{"nil": nil, "good": good, "spoilt": m.repo(), "new": fresh(t, 1000), "that New didn't make": {}} {
		was := stateOf(r)
		for _, percent := range []int{-1, 101, -100, 200, 1000, math.MaxInt, math.MinInt, math.MaxInt/100 + 1, 1 << 32, 1<<32 + 50, -1 << 63} {
			l, err := prune.Plan(r, percent)
			is(t, "Plan of what is "+what, l, err, nil, api.ErrArg)
			l, err = prune.Prune(r, percent)
			is(t, "Prune of what is "+what, l, err, nil, api.ErrArg)
		}
		if r != nil {
			was.stays(t, r, what)
		}
	}
	for _, percent := range every() {
		l, err := prune.Plan(nil, percent)
		is(t, "Plan of nil", l, err, nil, api.ErrArg)
		l, err = prune.Prune(nil, percent)
		is(t, "Prune of nil", l, err, nil, api.ErrArg)
	}
}

// TestP162Place: what is needed counts where it has its place, once, and nowhere, if it has none.
func TestP162Place(t *testing.T) {
	m := bare(t)
	four := ids(1, 4)
	m.place(api.Id{2}, four...)
	m.place(api.Id{}, api.Id{7})
	// Four trees need one of them, and what has no place, and each has a pack's id, or a snapshot's, as a piece's.
	first, pack := m.snap("0", []api.Id{four[0], {9}, {2}, {}})
	for _, label := range []string{"1", "2", "3"} {
		m.snap(label, []api.Id{four[0], {9}, first, pack}, []api.Id{four[0], four[0]})
	}
	r := m.repo()
	for percent, want := range map[int][]api.Id{0: {{}}, 1: {{}}, 25: {{}}, 26: {{}, {2}}, 99: {{}, {2}}, 100: {{}, {2}}} {
		l, err := prune.Plan(r, percent)
		is(t, "Plan at "+strconv.Itoa(percent), l, err, want, api.OK)
	}
	// A pack of which just the one of noughts is needed.
	m.place(api.Id{5}, api.Id{}, api.Id{8})
	r = m.repo()
	for percent, want := range map[int][]api.Id{0: {{}}, 50: {{}, {2}}, 51: {{}, {2}, {5}}} {
		l, err := prune.Plan(r, percent)
		is(t, "Plan at "+strconv.Itoa(percent), l, err, want, api.OK)
	}
	asks(t, r, every()...)
}

// --- P16.2: Prune

// opened are the blobs of packs, in order, and the ids of what is in them.
func opened(t *testing.T, r *repo.Repo, l []api.Id) ([][]byte, []api.Id) {
	t.Helper()
	var blobs [][]byte
	var ids []api.Id
	for _, pack := range l {
		b, _ := r.Pack(pack)
		in, err := packs.Get(b)
		if err != api.OK {
			t.Fatal("packs.Get tells", err)
		}
		for _, x := range in {
			plain, _, _, err := seal.Open(ours, x)
			if err != api.OK {
				t.Fatal("seal.Open tells", err)
			}
			blobs, ids = append(blobs, x), append(ids, seal.Name(ours, plain))
		}
	}
	return blobs, ids
}

// TestP162Prune: of two snapshots one is forgotten: what was its own goes, and what both need is written anew, or stays.
func TestP162Prune(t *testing.T) {
	for percent, want := range map[int]int{0: 0, 1: 0, 33: 0, 34: 2, 50: 2, 99: 2, 100: 2} {
		r := fresh(t, 1000)
		one, news := backs(t, r, "one", "a", "1234", "b", "5678")
		two, other := backs(t, r, "two", "a", "1234")
		if len(news) != 1 || len(other) != 1 {
			t.Fatal(news, other)
		}
		// The first pack: two pieces, two lists, the top, the snapshot; the second one: the top, the snapshot.
		if _, n := r.Count(); !slices.Equal(sorted(news[0], other[0]), r.Packs()) || sum(n) != 8 {
			t.Fatal(n)
		}
		r.Forget(one)
		blobs, all := opened(t, r, news)
		needed, _ := r.Objects(two)
		l, err := prune.Prune(r, percent)
		if err != api.OK {
			t.Fatal(err)
		}
		// Two of six are needed still.
		if (len(l) == 1) != (want > 0) {
			t.Fatal(percent, "percent:", len(l), "new packs")
		}
		if want == 0 {
			if _, is := r.Pack(news[0]); !is {
				t.Error("at", percent, "percent the first pack goes")
			}
			continue
		}
		got, in := opened(t, r, l)
		if _, is := r.Pack(news[0]); is || len(in) != want || slices.Contains(r.Packs(), news[0]) {
			t.Error("at", percent, "percent the first pack is there:", is, len(in))
		}
		for i, id := range in {
			if !slices.Contains(needed, id) || i > 0 && text(in[i-1]) >= text(id) || !bytes.Equal(got[i], blobs[slices.Index(all, id)]) {
				t.Error("blob", i, "is another one, or stands elsewhere")
			}
		}
		if l, label, err := r.Restore(two); err != api.OK || label != "two" || !files.Same(l, []files.File{{Path: "a", Bytes: []byte("1234")}}) {
			t.Error(l, label, err)
		}
	}
}

// TestP162Gone: what no snapshot needs goes at each percent, and new packs come of none of it.
func TestP162Gone(t *testing.T) {
	for _, percent := range []int{0, 1, 50, 100} {
		r := fresh(t, 500)
		var snaps, news []api.Id
		for _, label := range []string{"one", "two", "three"} {
			snap, l := backs(t, r, label, label, strings.Repeat(label, 7))
			snaps, news = append(snaps, snap), append(news, l...)
		}
		r.Forget(snaps[0])
		r.Forget(snaps[2])
		x := copied(t, r, 500)
		mine, _ := r.Objects(snaps[1])
		l, err := prune.Prune(r, percent)
		is(t, "Prune", l, err, nil, api.OK)
		var want []api.Id
		for _, id := range mine {
			pack, _ := x.Where(id)
			want = append(want, pack)
		}
		want = slices.Compact(sorted(want...))
		if got := r.Packs(); !slices.Equal(got, want) || len(want) == 0 || len(want) == len(news) {
			t.Errorf("packs are %s, not %s", short(got), short(want))
		}
		// The last one goes, and all with it.
		r.Forget(snaps[1])
		l, err = prune.Prune(r, percent)
		is(t, "Prune", l, err, nil, api.OK)
		if r.Packs() != nil {
			t.Error("packs are", short(r.Packs()))
		}
	}
}

// TestP162Idle: where nothing is worth it, nothing changes.
func TestP162Idle(t *testing.T) {
	r := fresh(t, 300)
	backs(t, r, "one", "a", "some text", "b/c", "another text")
	backs(t, r, "two", "a", "some text")
	for _, percent := range every() {
		l, err := prunes(t, r, 300, percent)
		is(t, "Prune", l, err, nil, api.OK)
	}
	was := stateOf(r)
	for what, r := range hardly(t) {
		want := api.OK
		if what == "that New didn't make" {
			want = api.ErrArg // repo.Rewrite's
		}
		l, err := prune.Prune(r, 50)
		is(t, "Prune of a repo "+what, l, err, nil, want)
	}
	was.stays(t, r, "another repo")
}

// partly is a repo with one pack of which a part alone is needed, in a snapshot whose other objects are elsewhere.
func partly(t *testing.T) (r *repo.Repo, old, snap api.Id) {
	t.Helper()
	r = fresh(t, 1000)
	one, news := backs(t, r, "one", "a", "1234", "b", "5678")
	snap, _ = backs(t, r, "two", "a", "1234")
	r.Forget(one)
	return r, news[0], snap
}

// TestP162Fails: each error of Rewrite is told, and then nothing has changed.
func TestP162Fails(t *testing.T) {
	r, old, snap := partly(t)
	r.Lose(old)
	// A piece, and a list that Objects must read.
	l, err := prunes(t, r, 1000, 50)
	is(t, "Prune without a list", l, err, nil, api.ErrBroken)

	// A pack of pieces alone, which aren't read.
	m := bare(t)
	l = ids(1, 3)
	m.place(api.Id{7}, l...)
	m.snap("snap", l[:1])
	r = m.repo()
	for percent, want := range map[int]api.Errno{0: api.OK, 33: api.OK, 34: api.ErrBroken, 100: api.ErrBroken} {
		l, err := prunes(t, r, m.pack, percent)
		is(t, "Prune without a piece at "+strconv.Itoa(percent), l, err, nil, want)
	}
	// It goes without its bytes, if none is needed.
	r.Forget(m.snaps[0])
	l, err = prunes(t, r, m.pack, 0)
	is(t, "Prune", l, err, nil, api.OK)
	if r.Packs() != nil {
		t.Error("packs are", short(r.Packs()))
	}

	// Packs were greater once.
	m = bare(t)
	great := objects.Object{Kind: objects.Piece, Bytes: make([]byte, 200)}
	id, _ := m.named(great)
	m.lay(great, objects.Object{Kind: objects.Piece, Bytes: []byte("else")})
	snap, own := m.snap("snap", []api.Id{id})
	for _, pack := range []int{100, 246, 247, 1000} {
		m.pack = pack
		r = m.repo()
		l, err = prunes(t, r, pack, 50)
		is(t, "Prune", l, err, nil, api.OK)
		l, err = prunes(t, r, pack, 51)
		// Its kind and length, 200 bytes, 41 more of the blob; how many blobs there are, and the blob's length.
		if want := pack < 1+2+200+41+1+2; want != (err == api.ErrBig) || want != (l == nil) || !want && err != api.OK {
			t.Error("into packs of", pack, "Prune tells", l, err)
		}
		if _, there := r.Pack(own); !there {
			t.Error("the snapshot's pack goes")
		}
		if at, _ := r.Where(snap); at != own {
			t.Error("the snapshot is elsewhere")
		}
	}
}

// TestP162Rising: what is written anew is so in rising order of ids, whatever snapshots need it in whatever order.
func TestP162Rising(t *testing.T) {
	for turn := range 20 {
		m := bare(t)
		var pieces []objects.Object
		for i := range 30 {
			pieces = append(pieces, objects.Object{Kind: objects.Piece, Bytes: []byte{byte(turn), byte(i)}})
		}
		all := m.idsOf(pieces)
		m.lay(pieces[:9]...)
		m.lay(pieces[9:16]...)
		m.lay(pieces[16:]...)
		needed := slices.Concat(all[2:4], all[10:13], all[20:24])
		slices.Reverse(needed)
		m.snap("one", needed[:5], all[9:10])
		m.snap("two", needed[3:])
		// A pack holds all six that are needed, or, at 46 bytes each, two of them.
		for pack, want := range map[int]int{1000: 1, 100: 3} {
			m.pack = pack
			r := m.repo()
			worth, err := prune.Plan(r, 57)
			if err != api.OK || len(worth) != 2 {
				t.Fatal("Plan tells", short(worth), err)
			}
			news, err := prunes(t, r, pack, 57)
			_, in := opened(t, r, news)
			is(t, "Prune's packs", in, err, sorted(slices.Concat(all[2:4], all[20:24])...), api.OK)
			if len(news) != want {
				t.Error(len(news), "new packs of at most", pack)
			}
		}
	}
}
