package proof_test

import (
	"bytes"
	"encoding/json"
	"math"
	"math/rand"
	"os"
	"os/exec"
	"path/filepath"
	"slices"
	"testing"

	"bailee/api"
	"bailee/digest"
	"bailee/proof"
)

// --- P6.3: two rows of bytes that are unlike, with one digest

// nothing tells a fault unless Two tells nothing.
func nothing(t *testing.T, root api.Id, n, i int, a []byte, x []api.Id, b []byte, y []api.Id, what ...any) {
	t.Helper()
	one, other, ok := proof.Two(root, n, i, a, x, b, y)
	if ok || len(one) != 0 || len(other) != 0 {
		t.Error(append(what, "place", i, "of", n, "answers", len(one), len(other), ok)...)
	}
}

// both is so for the two proofs in each order.
func both(t *testing.T, root api.Id, n, i int, a []byte, x []api.Id, b []byte, y []api.Id, what ...any) {
	t.Helper()
	nothing(t, root, n, i, a, x, b, y, what...)
	nothing(t, root, n, i, b, y, a, x, what...)
}

// TestP63Alike: a leaf that is proved twice tells nothing.
func TestP63Alike(t *testing.T) {
	for _, n := range []int{0, 1, 64, 65, 128, 129, 321, 1000} {
		b := some(n)
		l := cut(b)
		for i, leaf := range l {
			way := wayOf(l, i)
			both(t, known(b), len(l), i, leaf, way, bytes.Clone(leaf), slices.Clone(way), n, "bytes")
			nothing(t, known(b), len(l), i, leaf, way, leaf, way, n, "bytes")
		}
	}
	nothing(t, known(nil), 1, 0, nil, nil, []byte{}, []api.Id{}, "no bytes")
	nothing(t, known(nil), 1, 0, []byte{}, []api.Id{}, nil, nil, "no bytes")
}

// TestP63OneProved: of two leaves that are unlike one is proved, and the other one isn't.
func TestP63OneProved(t *testing.T) {
	for _, n := range []int{0, 1, 64, 65, 128, 129, 321, 1000} {
		b := some(n)
		l := cut(b)
		for i, leaf := range l {
			way := wayOf(l, i)
			long := append(bytes.Clone(leaf), 0)
			both(t, known(b), len(l), i, leaf, way, long, way, "a byte more")
			both(t, known(b), len(l), i, leaf, way, some(65), way, "too long")
			for k := range leaf {
				other := bytes.Clone(leaf)
				other[k] ^= 1
				both(t, known(b), len(l), i, leaf, way, other, way, "unlike at", k)
				both(t, known(b), len(l), i, leaf, way, leaf[:k], way, "shorter")
			}
			for j, other := range l {
				if i != j {
					both(t, known(b), len(l), i, leaf, way, other, wayOf(l, j), "the proof of", j)
					both(t, known(b), len(l), i, leaf, way, other, way, "the leaf of", j)
				}
			}
		}
	}
}

// TestP63NoneProved: of two leaves that are unlike none is proved, whatever else they have in common.
func TestP63NoneProved(t *testing.T) {
	b := some(321)
	l := cut(b)
	for i := range l {
		way := wayOf(l, i)
		both(t, known(b), 6, i, []byte{1}, way, []byte{2}, way)
		both(t, api.Id{}, 6, i, l[i], way, []byte{2}, way)
		both(t, known(b), 5, i, l[i], way, []byte{2}, way)
		both(t, known(b), 6, i, l[i], nil, []byte{2}, nil)
		both(t, known(b), 6, i, l[i], append(slices.Clone(way), api.Id{}), []byte{2}, nil)
		both(t, known(b), 6, (i+1)%6, l[i], way, []byte{2}, way)
	}
}

func TestP63Range(t *testing.T) {
	b := some(321)
	leaf, way := wayOfLeaf(b, 3)
	for _, p := range [][2]int{{6, 6}, {6, -1}, {0, 0}, {-1, 0}, {6, math.MaxInt}, {6, math.MinInt}, {math.MinInt, 0}, {math.MaxInt, math.MaxInt}, {math.MaxInt, -1}} {
		both(t, known(b), p[0], p[1], leaf, way, []byte{1}, way)
		both(t, known(b), p[0], p[1], leaf, way, leaf, way)
		both(t, known(b), p[0], p[1], nil, nil, []byte{1}, make([]api.Id, 99))
	}
}

// TestP63Made: each of two unlike proofs comes to a root, and these are two.
func TestP63Made(t *testing.T) {
	r := rand.New(rand.NewSource(63))
	for _, p := range places() {
		n, i := p[0], p[1]
		x, y := ids(r, size(n, i)), ids(r, size(n, i))
		one, other := made(n, i, some(20), x), made(n, i, some(21), y)
		checks(t, api.OK, one, n, i, some(20), x)
		checks(t, api.OK, other, n, i, some(21), y)
		both(t, one, n, i, some(20), x, some(21), y)
		both(t, other, n, i, some(20), x, some(21), y)
	}
}

// weak is a package digest of few digests: with it, there are two rows of bytes with one.
const weak = `package digest

import (
	"bytes"

	"bailee/api"
)

func Of(l ...[]byte) api.Id {
	h := uint32(2166136261)
	for _, c := range bytes.Join(l, nil) {
		h = (h ^ uint32(c)) * 16777619
	}
	h ^= h >> 15
	return api.Id{7: byte(h % 61)}
}

func Two(a, b []byte) bool { return !bytes.Equal(a, b) && Of(a) == Of(b) }
`

// inWeak tells a test that it is run with the weak digest.
const inWeak = "BAILEE_TEST_WEAK"

// withWeak runs a test once more, with the weak digest; it tells whether this run is that one.
func withWeak(t *testing.T) bool {
	t.Helper()
	if os.Getenv(inWeak) != "" {
		if digest.Of([]byte("abc")) == of([]byte("abc")) {
			t.Fatal("the weak digest isn't there")
		}
		return true
	}
	tool, err := exec.LookPath("go")
	if err != nil {
		t.Skip("without the tool go there is no package digest but the one that is built in:", err)
	}
	run := exec.Command(tool, "test", "-count=1", "-v", "-overlay="+overlay(t), "-run=^"+t.Name()+"$", ".")
	run.Env = append(os.Environ(), inWeak+"=1")
	out, err := run.CombinedOutput()
	if err != nil || !bytes.Contains(out, []byte("--- PASS: "+t.Name())) {
		t.Errorf("with the weak digest: %v\n%s", err, out)
	}
	return false
}

// overlay is a file that tells the tool go to take the weak digest instead of the project's.
func overlay(t *testing.T) string {
	t.Helper()
	dir := t.TempDir()
	instead := filepath.Join(dir, "weak.go")
	write(t, instead, []byte(weak))
	own, err := filepath.Abs("../digest")
	if err != nil {
		t.Fatal(err)
	}
	l, err := filepath.Glob(filepath.Join(own, "*.go"))
	if err != nil {
		t.Fatal(err)
	}
	replace := map[string]string{}
	for _, file := range l {
		replace[file] = "" // it isn't there
	}
	replace[filepath.Join(own, "digest.go")] = instead
	b, err := json.Marshal(map[string]any{"Replace": replace})
	if err != nil {
		t.Fatal(err)
	}
	file := filepath.Join(dir, "overlay.json")
	write(t, file, b)
	return file
}

func write(t *testing.T, file string, b []byte) {
	t.Helper()
	if err := os.WriteFile(file, b, 0o600); err != nil {
		t.Fatal(err)
	}
}

// forged is a leaf of so many bytes that are tried, and a way, that Check takes at place i of n.
func forged(t *testing.T, r *rand.Rand, root api.Id, n, i int) ([]byte, []api.Id) {
	t.Helper()
	for range 100000 {
		leaf, way := make([]byte, r.Intn(65)), ids(r, size(n, i))
		r.Read(leaf)
		for k := range way {
			way[k] = digest.Of(way[k][:]) // one of the few: rows may meet at all heights
		}
		if proof.Check(root, n, i, leaf, way) == api.OK {
			return leaf, way
		}
	}
	t.Fatal("place", i, "of", n, "isn't forged")
	return nil, nil
}

// reached is a root that some leaf and some way at place i of n come to.
func reached(t *testing.T, r *rand.Rand, n, i int) api.Id {
	t.Helper()
	way := ids(r, size(n, i))
	for k := range 256 {
		if root := (api.Id{7: byte(k)}); proof.Check(root, n, i, nil, way) == api.OK {
			return root
		}
	}
	t.Fatal("place", i, "of", n, "comes to no root")
	return api.Id{}
}

// found tells a fault unless Two finds two rows, and with which byte they begin: 0 where the leaves meet, 1 between, 2 at the root.
func found(t *testing.T, root api.Id, n, i int, a []byte, x []api.Id, b []byte, y []api.Id) byte {
	t.Helper()
	aWas, xWas, bWas, yWas := bytes.Clone(a), slices.Clone(x), bytes.Clone(b), slices.Clone(y)
	one, other, ok := proof.Two(root, n, i, a, x, b, y)
	if !ok || bytes.Equal(one, other) || digest.Of(one) != digest.Of(other) {
		t.Fatalf("place %d of %d: %x and %x, %v", i, n, one, other, ok)
	}
	front := one[0]
	clear(one[:cap(one)])
	clear(other[:cap(other)])
	if !bytes.Equal(a, aWas) || !slices.Equal(x, xWas) || !bytes.Equal(b, bWas) || !slices.Equal(y, yWas) {
		t.Error("place", i, "of", n, "what is told isn't new memory")
	}
	return front
}

// TestP63Found: of a digest of which two rows are known, Two finds them, on whatever height both ways meet.
func TestP63Found(t *testing.T) {
	if !withWeak(t) {
		return
	}
	r := rand.New(rand.NewSource(36))
	heights := map[byte]int{}
	for n := 1; n <= 20; n++ {
		b := some(n*64 - 7)
		root := proof.Root(b)
		for i := range n {
			a, x := proved(t, b, i)
			for range 5 {
				c, y := forged(t, r, root, n, i)
				d, z := forged(t, r, root, n, i)
				if bytes.Equal(a, c) || bytes.Equal(a, d) || bytes.Equal(c, d) {
					continue
				}
				heights[found(t, root, n, i, a, x, c, y)]++
				heights[found(t, root, n, i, c, y, a, x)]++
				heights[found(t, root, n, i, c, y, d, z)]++
			}
		}
	}
	for _, n := range []int{1 << 31, 1<<31 + 1, math.MaxInt} {
		for _, i := range []int{0, n / 2, n - 1} {
			root := reached(t, r, n, i)
			a, x := forged(t, r, root, n, i)
			b, y := forged(t, r, root, n, i)
			for bytes.Equal(a, b) {
				b, y = forged(t, r, root, n, i)
			}
			heights[found(t, root, n, i, a, x, b, y)]++
		}
	}
	if heights[0] == 0 || heights[1] == 0 || heights[2] == 0 {
		t.Error("too few ways meet at the leaf, between and at the root:", heights)
	}
}

// TestP63FoundAlike: the same leaf tells nothing, even with two ways that are both taken.
func TestP63FoundAlike(t *testing.T) {
	if !withWeak(t) {
		return
	}
	r := rand.New(rand.NewSource(33))
	for n := 2; n <= 20; n++ {
		b := some(n * 64)
		for i := range n {
			a, x := proved(t, b, i)
			y := slices.Clone(x)
			for tries := 0; slices.Equal(x, y) || proof.Check(proof.Root(b), n, i, a, y) != api.OK; tries++ {
				if tries > 100000 {
					t.Fatal("no other way from place", i, "of", n)
				}
				y = ids(r, len(x))
			}
			both(t, proof.Root(b), n, i, a, x, bytes.Clone(a), y)
		}
	}
}

// TestP63FoundNotProved: where rows with one digest are at hand, but not proved, Two tells nothing.
func TestP63FoundNotProved(t *testing.T) {
	if !withWeak(t) {
		return
	}
	r := rand.New(rand.NewSource(30))
	for n := 1; n <= 20; n++ {
		b := some(n * 64)
		root := proof.Root(b)
		for i := range n {
			a, x := proved(t, b, i)
			c, y := forged(t, r, root, n, i)
			wrong := root
			wrong[7]++
			both(t, wrong, n, i, a, x, c, y, "another root")
			both(t, root, n, i, a, x, c, append(slices.Clone(y), api.Id{}), "a digest more")
			both(t, root, n, n, a, x, c, y, "no such place")
			both(t, root, n, -1, a, x, c, y, "no such place")
			long := some(65)
			for digest.Of([]byte{0}, long) != digest.Of([]byte{0}, c) {
				r.Read(long)
			}
			both(t, root, n, i, a, x, long, y, "65 bytes")
		}
	}
}
