package repo_test

import (
	"bytes"
	"encoding/json"
	"os"
	"os/exec"
	"path/filepath"
	"testing"

	"bailee/api"
	"bailee/digest"
	"bailee/packs"
)

// weak is a package digest of few digests: with it, other objects, and other packs, have one id.
const weak = `package digest

import (
	"bytes"

	"bailee/api"
)

func Of(l ...[]byte) api.Id {
	h := uint32(2166136261)
	for _, c := range bytes.Join(l, nil) {
		h = (h ^ uint32(c)) * 16777619
	}
	h ^= h >> 15
	h *= 2246822519
	h = (h ^ h>>13) % 4001
	return api.Id{7: byte(h), 9: byte(h >> 8)}
}

func Two(a, b []byte) bool { return !bytes.Equal(a, b) && Of(a) == Of(b) }
`

// inWeak tells a test that it is run with the weak digest.
const inWeak = "BAILEE_TEST_WEAK_REPO"

// withWeak runs a test once more, with the weak digest; it tells whether this run is that one.
func withWeak(t *testing.T) bool {
	t.Helper()
	if os.Getenv(inWeak) != "" {
		if digest.Of([]byte("abc"))[0] != 0 {
			t.Fatal("the weak digest isn't there")
		}
		return true
	}
	tool, err := exec.LookPath("go")
	if err != nil {
		t.Skip("without the tool go there is no package digest but the one that is built in:", err)
	}
	run := exec.Command(tool, "test", "-count=1", "-v", "-overlay="+overlay(t), "-run=^"+t.Name()+"$", ".")
	run.Env = append(os.Environ(), inWeak+"=1")
	out, err := run.CombinedOutput()
	if err != nil || !bytes.Contains(out, []byte("--- PASS: "+t.Name())) {
		t.Errorf("with the weak digest: %v\n%s", err, out)
	}
	return false
}

// overlay is a file that tells the tool go to take the weak digest instead of the project's.
func overlay(t *testing.T) string {
	t.Helper()
	dir := t.TempDir()
	own, err := filepath.Abs("../digest")
	if err != nil {
		t.Fatal(err)
	}
	l, err := filepath.Glob(filepath.Join(own, "*.go"))
	if err != nil {
		t.Fatal(err)
	}
	replace := map[string]string{}
	for _, file := range l {
		replace[file] = "" // it isn't there
	}
	replace[filepath.Join(own, "digest.go")] = filepath.Join(dir, "weak.go")
	told, err := json.Marshal(map[string]any{"Replace": replace})
	if err != nil {
		t.Fatal(err)
	}
	for name, b := range map[string][]byte{"weak.go": []byte(weak), "overlay.json": told} {
		if err := os.WriteFile(filepath.Join(dir, name), b, 0o600); err != nil {
			t.Fatal(err)
		}
	}
	return filepath.Join(dir, "overlay.json")
}

// TestP151Collide: where ids are few, other bytes with an id that is known are told, wherever they come up.
func TestP151Collide(t *testing.T) {
	if !withWeak(t) {
		return
	}
	how := map[string]int{}
	for seed := range 200 {
		for what, n := range history(t, int64(seed), 30) {
			how[what] += n
		}
	}
	for _, what := range []string{"one that has a place", "another new one", "a pack", "backup 0", "rewrite 0", "rewrite all 0", "read 0", "read 37"} {
		if how[what] < 5 {
			t.Error(what, "comes up", how[what], "times:", how)
		}
	}
}

// TestP154Collide: a new pack has the id of another one, that is there, was lost, or is taken away.
func TestP154Collide(t *testing.T) {
	if !withWeak(t) {
		return
	}
	for _, x := range []struct {
		what       string
		away, lost bool
		want       api.Errno
	}{
		{"one that stays", false, false, api.ErrTwice},
		{"one that is taken away", true, false, api.ErrTwice},
		{"one that was lost", false, true, api.OK},
		{"one that was lost, and is taken away", true, true, api.OK},
	} {
		m := second(ours, usual)
		it := m.lay(api.Id{5}, some(5, 70))
		one := m.lay(api.Id{6}, some(6, 60))
		two, seed := some(7, 60), int64(7)
		for packs.Id(packed(t, some(6, 60), two)) != it {
			seed++
			two = some(seed, 60)
		}
		away := []api.Id{one, m.lay(api.Id{7}, two)}
		if x.lost {
			m.lose(it)
		}
		if x.away {
			away = append(away, it)
		}
		r := m.repo(t)
		before := m.copied()
		news, err := rewrites(t, r, m, away, []api.Id{{6}, {7}})
		if err != x.want || (len(news) == 1) != (err == api.OK) {
			t.Error(x.what, "tells", news, err)
		}
		if err != api.OK {
			same(t, r, before)
			continue
		}
		if b, is := r.Pack(it); !is || !bytes.Equal(b, packed(t, some(6, 60), two)) {
			t.Error(x.what, "has its bytes still")
		}
		if _, is := r.Where(api.Id{5}); is == x.away {
			t.Error(x.what, "has its object:", is)
		}
	}
}

// TestP151CollidePacks: two new packs of one backup have one id.
func TestP151CollidePacks(t *testing.T) {
	if !withWeak(t) {
		return
	}
	// Each object comes into a pack of its own.
	c := config(20, 20, 1, 140)
	for seed := range int64(20000) {
		m := second(ours, c)
		l := tree("a", string(some(seed, 20)))
		m.backup(l, "")
		if m.twice["a pack"] == 0 {
			continue
		}
		r, m := fresh(t, c)
		unchanged(t, r, m, l, "", api.ErrTwice, "seed", seed)
		return
	}
	t.Error("no two packs have one id")
}
