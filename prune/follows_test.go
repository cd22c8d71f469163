package prune_test

import (
	"maps"
	"math/rand"
	"slices"
	"strconv"
	"testing"

	"bailee/api"
	"bailee/files"
	"bailee/objects"
	"bailee/prune"
	"bailee/repo"
)

// --- P16.4

// restored is what a snapshot is restored as, if it can be.
type restored struct {
	tree  []files.File
	label string
}

// restores are all snapshots that can be restored.
func restores(r *repo.Repo) map[api.Id]restored {
	of := map[api.Id]restored{}
	for _, snap := range r.Snaps() {
		if l, label, err := r.Restore(snap); err == api.OK {
			of[snap] = restored{l, label}
		}
	}
	return of
}

// follows prunes, and tells a fault unless snapshots are restored as before, and each pack has a needed object; Prune's error.
func follows(t *testing.T, r *repo.Repo, pack, percent int) api.Errno {
	t.Helper()
	before, snaps := restores(r), r.Snaps()
	_, err := prunes(t, r, pack, percent)
	after := restores(r)
	for snap, x := range before {
		got, can := after[snap]
		if !can || got.label != x.label || !files.Same(got.tree, x.tree) {
			t.Errorf("snapshot %x is restored: %v, or is another one", snap[:4], can)
		}
	}
	if !slices.Equal(r.Snaps(), snaps) {
		t.Error("Snaps are others")
	}
	if err != api.OK {
		return err
	}
	needed := map[api.Id]int{}
	for _, snap := range r.Snaps() {
		l, err := r.Objects(snap)
		if err != api.OK {
			t.Error("behind Prune Objects tells", err)
		}
		for _, id := range l {
			if at, is := r.Where(id); is {
				needed[at]++
			}
		}
	}
	for _, id := range r.Packs() {
		if needed[id] == 0 {
			t.Errorf("pack %x has nothing that is needed", id[:4])
		}
	}
	return api.OK
}

// history does this and that with a repo, and prunes it now and then; how often what came up.
func history(t *testing.T, seed int64, steps int) map[string]int {
	t.Helper()
	chance := rand.New(rand.NewSource(seed))
	pack := 300 + chance.Intn(300)
	r := fresh(t, pack)
	how := map[string]int{}
	lost := map[api.Id][]byte{}
	for range steps {
		switch what := chance.Intn(10); what {
		case 0, 1, 2, 3:
			var tree []files.File
			for i := range chance.Intn(4) {
				tree = append(tree, files.File{Path: string(rune('a'+i)) + "/x"[:chance.Intn(2)*2], Bytes: make([]byte, chance.Intn(30))})
				chance.Read(tree[i].Bytes[:len(tree[i].Bytes)/4])
			}
			if _, _, err := r.Backup(tree, strconv.Itoa(chance.Intn(9))); err == api.OK {
				how["backup"]++
			}
		case 4, 5:
			if l := r.Snaps(); len(l) > 0 {
				r.Forget(l[chance.Intn(len(l))])
			}
		case 6:
			if l := r.Packs(); len(l) > 0 {
				id := l[chance.Intn(len(l))]
				if b, is := r.Pack(id); is {
					lost[id] = b
					r.Lose(id)
				}
			}
		case 7, 8:
			for _, id := range sorted(slices.Collect(maps.Keys(lost))...) {
				if chance.Intn(4) > 0 {
					r.Give(lost[id])
					delete(lost, id)
				}
			}
		default:
			err := follows(t, r, pack, chance.Intn(101))
			how["prune "+strconv.Itoa(int(err))]++
		}
		if n := len(prune.Broken(r)); n > 0 && n < len(r.Snaps()) {
			how["some are broken"]++
		}
		if len(prune.Missing(r)) > 0 {
			how["some are missing"]++
		}
		asks(t, r, chance.Intn(103)-1)
	}
	return how
}

func TestP164Histories(t *testing.T) {
	how := map[string]int{}
	for seed := range 25 {
		for what, n := range history(t, int64(seed), 30) {
			how[what] += n
		}
	}
	for _, what := range []string{"backup", "prune 0", "prune 37", "some are broken", "some are missing"} {
		if how[what] < 10 {
			t.Error(what, "comes up", how[what], "times:", how)
		}
	}
}

// TestP164Percent: at each percent, of a repo whose packs are needed in many parts, also again and again.
func TestP164Percent(t *testing.T) {
	for _, percent := range []int{0, 1, 20, 33, 50, 66, 90, 99, 100} {
		r := fresh(t, 600)
		var snaps []api.Id
		for i := range 12 {
			var l []string
			for k := range 5 {
				l = append(l, string(rune('a'+k)), strconv.Itoa((i+k*k)%(3+k)*1111111))
			}
			snap, _ := backs(t, r, strconv.Itoa(i), l...)
			snaps = append(snaps, snap)
		}
		for i, snap := range snaps {
			if i%3 != 0 {
				r.Forget(snap)
			}
			if err := follows(t, r, 600, percent); err != api.OK {
				t.Error("Prune tells", err)
			}
		}
		// Nothing is worth it any more.
		is(t, "Broken", prune.Broken(r), api.OK, nil, api.OK)
		is(t, "Missing", prune.Missing(r), api.OK, nil, api.OK)
		l, err := prune.Plan(r, percent)
		is(t, "Plan", l, err, nil, api.OK)
	}
}

// TestP164Half: what is broken already stays so, and the rest isn't.
func TestP164Half(t *testing.T) {
	m := bare(t)
	x, y := objects.Object{Kind: objects.Piece, Bytes: []byte("x")}, objects.Object{Kind: objects.Piece, Bytes: []byte("y")}
	all := m.idsOf([]objects.Object{x, y})
	m.lay(x, y)
	lost := ids(1, 1)
	m.place(api.Id{1}, lost...)
	broken, _ := m.snap("broken", lost, all[:1])
	good, _ := m.snap("good", all[:1])
	m.place(api.Id{2}, ids(2, 3)...)
	for _, percent := range []int{0, 50, 51, 100} {
		r := m.repo()
		if err := follows(t, r, m.pack, percent); err != api.OK {
			t.Error("Prune at", percent, "tells", err)
		}
		is(t, "Broken", prune.Broken(r), api.OK, []api.Id{broken}, api.OK)
		is(t, "Missing", prune.Missing(r), api.OK, []api.Id{{1}}, api.OK)
		if _, there := r.Where(all[1]); there != (percent < 51) {
			t.Error("at", percent, "percent what isn't needed has a place:", there)
		}
		if _, label, err := r.Restore(good); err != api.OK || label != "good" {
			t.Error("Restore tells", label, err)
		}
	}
}

// --- what is handed in stays, and what is told is in memory of its own

// TestStays: what only asks changes nothing, however often, and whatever is done with what it told.
func TestStays(t *testing.T) {
	m := bare(t)
	pieces := ids(1, 9)
	m.place(api.Id{200}, pieces...)
	m.place(api.Id{100}, ids(2, 3)...)
	m.snap("one", pieces[:4])
	m.snap("two", pieces[2:7], pieces[:4])
	_, own := m.snap("three")
	delete(m.there, own)
	m.snaps = append(m.snaps, api.Id{3})
	spoilt := m.repo()
	m.snaps = m.snaps[:2]
	for what, r := range map[string]*repo.Repo{"whole": m.repo(), "spoilt": spoilt} {
		was := stateOf(r)
		ask := func() [][]api.Id {
			needed, _ := prune.Needed(r)
			worth, _ := prune.Plan(r, 90)
			return [][]api.Id{needed, worth, prune.Broken(r), prune.Missing(r), r.Snaps(), r.Packs()}
		}
		first := ask()
		kept := ask()
		for _, l := range first {
			for _, l := range [][]api.Id{l, l[:cap(l)]} {
				for i := range l {
					l[i] = api.Id{99}
				}
			}
		}
		was.stays(t, r, what)
		for i, l := range ask() {
			is(t, "what is asked as the "+strconv.Itoa(i)+"th", l, api.OK, kept[i], api.OK)
		}
	}
}

// TestAnswersStayAsTheyWere: what was told doesn't change with the repo, nor with what is told later.
func TestAnswersStayAsTheyWere(t *testing.T) {
	r, old, snap := partly(t)
	one, last := backs(t, r, "three", "c", "more")
	r.Lose(last[0])
	needed, _ := prune.Needed(r)
	worth, _ := prune.Plan(r, 50)
	broken, missing := prune.Broken(r), prune.Missing(r)
	r.Give(nil)
	is(t, "Plan", worth, api.OK, nil, api.OK)
	is(t, "Broken", broken, api.OK, []api.Id{one}, api.OK)
	is(t, "Missing", missing, api.OK, last, api.OK)
	is(t, "Needed", needed, api.OK, nil, api.OK)
	r.Forget(one)
	needed, _ = prune.Needed(r)
	worth, _ = prune.Plan(r, 50)
	kept, packs := slices.Clone(needed), slices.Clone(worth)
	news, err := prune.Prune(r, 50)
	if err != api.OK || len(news) != 1 {
		t.Fatal(news, err)
	}
	is(t, "Plan's packs", sorted(old, last[0]), api.OK, packs, api.OK)
	told := slices.Clone(news)
	where, _ := r.Where(needed[0])
	for i := range needed {
		needed[i] = api.Id{}
	}
	for i := range news {
		news[i] = api.Id{}
	}
	if at, _ := r.Where(kept[0]); at != where {
		t.Error("what is needed is elsewhere")
	}
	if _, there := r.Pack(told[0]); !there {
		t.Error("the new pack isn't there")
	}
	backs(t, r, "four", "c", "more")
	r.Forget(snap)
	again, err := prune.Prune(r, 100)
	is(t, "Plan's packs", worth, api.OK, packs, api.OK)
	is(t, "Broken", broken, api.OK, []api.Id{one}, api.OK)
	is(t, "Missing", missing, api.OK, last, api.OK)
	if err != api.OK {
		t.Error(again, err)
	}
}

// TestNoStateOfItsOwn: two repos, by turns, answer as each one does alone.
func TestNoStateOfItsOwn(t *testing.T) {
	alone := make([][]api.Id, 4)
	for turn := range 3 {
		for i := range 2 {
			m := bare(t)
			pieces := ids(byte(i), 6)
			m.place(api.Id{byte(10 + i)}, pieces...)
			m.place(api.Id{30}, ids(2, 3)...)
			m.snap(strconv.Itoa(i), pieces[:i+2])
			r := m.repo()
			needed, _ := prune.Needed(r)
			worth, _ := prune.Plan(r, 50)
			if turn == 0 {
				alone[i], alone[i+2] = needed, worth
			}
			is(t, "Needed", needed, api.OK, alone[i], api.OK)
			is(t, "Plan", worth, api.OK, alone[i+2], api.OK)
			is(t, "Missing", prune.Missing(r), api.OK, []api.Id{{byte(10 + i)}}, api.OK)
			is(t, "Broken", prune.Broken(r), api.OK, r.Snaps(), api.OK)
			_, err := prune.Prune(r, 50)
			is(t, "Prune", nil, err, nil, []api.Errno{api.ErrBroken, api.OK}[i])
			prune.Prune(nil, 50)
		}
	}
	if slices.Equal(alone[0], alone[1]) || slices.Equal(alone[2], alone[3]) {
		t.Error("both repos are one")
	}
}
