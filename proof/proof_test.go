package proof_test

import (
	"bytes"
	"crypto/sha256"
	"encoding/binary"
	"encoding/hex"
	"math"
	"math/bits"
	"math/rand"
	"slices"
	"testing"

	"bailee/api"
	"bailee/proof"
)

// some are bytes by chance, so many, the same ones in each run.
func some(n int) []byte {
	b := make([]byte, n)
	rand.New(rand.NewSource(int64(n))).Read(b)
	return b
}

// running are bytes by a rule that the other program, too, has them by.
func running(n int) []byte {
	b := make([]byte, n)
	for i := range b {
		b[i] = byte(i * 7 % 251)
	}
	return b
}

// lengths are all up to some leaves, and edges of more.
func lengths() []int {
	var l []int
	for n := range 4*64 + 2 {
		l = append(l, n)
	}
	for leaves := 5; leaves <= 40; leaves++ {
		l = append(l, leaves*64-63, leaves*64-1, leaves*64)
	}
	return append(l, 63*64, 63*64+1, 64*64, 64*64+1, 100*64+17)
}

// --- the promises' words, worked out in another way: by halving from above

// of is the digest of rows, by the library.
func of(l ...[]byte) api.Id { return sha256.Sum256(bytes.Join(l, nil)) }

// cut are the leaves of bytes.
func cut(b []byte) [][]byte {
	if len(b) == 0 {
		return [][]byte{{}}
	}
	return slices.Collect(slices.Chunk(b, 64))
}

// left is how many of n leaves stand below the left one of the two topmost digests.
func left(n int) int { return 1 << (bits.Len(uint(n-1)) - 1) }

func pair(a, b api.Id) api.Id { return of([]byte{1}, a[:], b[:]) }

// top is what stands above the digests of leaves.
func top(l [][]byte) api.Id {
	if len(l) == 1 {
		return of([]byte{0}, l[0])
	}
	k := left(len(l))
	return pair(top(l[:k]), top(l[k:]))
}

// wayOf are the digests beside the way of leaf i.
func wayOf(l [][]byte, i int) []api.Id {
	if len(l) == 1 {
		return nil
	}
	k := left(len(l))
	if i < k {
		return append(wayOf(l[:k], i), top(l[k:]))
	}
	return append(wayOf(l[k:], i-k), top(l[:k]))
}

// size is how many digests a way has from place i of n.
func size(n, i int) int {
	if n == 1 {
		return 0
	}
	k := left(n)
	if i < k {
		return bits.Len(uint(k)) // a whole tree is below, and one digest beside it
	}
	return size(n-k, i-k) + 1
}

// come is what a leaf's digest and a way come to; the way has the right size.
func come(n, i int, way []api.Id, now api.Id) api.Id {
	if n == 1 {
		return now
	}
	k, last := left(n), len(way)-1
	if i < k {
		return pair(come(k, i, way[:last], now), way[last])
	}
	return pair(way[last], come(n-k, i-k, way[:last], now))
}

// counted is the root of n leaves with this above them.
func counted(n int, top api.Id) api.Id {
	return of([]byte{2}, binary.LittleEndian.AppendUint64(nil, uint64(n)), top[:])
}

// known is the root of bytes.
func known(b []byte) api.Id { return counted(len(cut(b)), top(cut(b))) }

// made is the root that a leaf, of whatever length, and a way come to.
func made(n, i int, leaf []byte, way []api.Id) api.Id {
	return counted(n, come(n, i, way, of([]byte{0}, leaf)))
}

// ids are digests by chance.
func ids(r *rand.Rand, n int) []api.Id {
	l := make([]api.Id, n)
	for i := range l {
		r.Read(l[i][:])
	}
	return l
}

// checks tells a fault unless Check answers this.
func checks(t *testing.T, want api.Errno, root api.Id, n, i int, leaf []byte, way []api.Id, what ...any) {
	t.Helper()
	if got := proof.Check(root, n, i, leaf, way); got != want {
		t.Error(append(what, "place", i, "of", n, "with", len(leaf), "bytes and", len(way), "digests:", got, "want", want)...)
	}
}

// proved is what Prove tells, where it must tell something.
func proved(t *testing.T, b []byte, i int) ([]byte, []api.Id) {
	t.Helper()
	leaf, way, err := proof.Prove(b, i)
	if err != api.OK {
		t.Fatal("leaf", i, "of", len(b), "bytes:", err)
	}
	return leaf, way
}

// --- P6.1: leaves, the root, and what is proved

func TestP61Leaves(t *testing.T) {
	for _, c := range [][2]int{
		{0, 1}, {1, 1}, {2, 1}, {63, 1}, {64, 1}, {65, 2}, {127, 2}, {128, 2}, {129, 3}, {192, 3}, {193, 4},
		{4095, 64}, {4096, 64}, {4097, 65}, {api.MaxPack - 64, 16383}, {api.MaxPack - 63, 16384}, {api.MaxPack, 16384}, {api.MaxPack + 1, 16385},
	} {
		if got := proof.Leaves(make([]byte, c[0])); got != c[1] {
			t.Error(c[0], "bytes have", got, "leaves, want", c[1])
		}
	}
	if proof.Leaves(nil) != 1 || proof.Leaves([]byte{}) != 1 {
		t.Error("no bytes have one leaf")
	}
	for n := range 2000 {
		if got := proof.Leaves(some(n)); got != len(cut(some(n))) {
			t.Error(n, "bytes have", got, "leaves")
		}
	}
}

// TestP61Published: what another program says.
func TestP61Published(t *testing.T) {
	for _, c := range []struct {
		b    []byte
		want string
	}{
		{nil, "a75c2eda6b9b4e5b06c7d58d10fe1a515bb689c88691c5376633f38dba135942"},
		{[]byte{}, "a75c2eda6b9b4e5b06c7d58d10fe1a515bb689c88691c5376633f38dba135942"},
		{[]byte("abc"), "2f51c6a809c8bd529df7572b2aa765ef65d3b74c41742cfd92edb6a248a57542"},
		{running(1), "ef5f464056079ebafefc9f2ddcc9405475ba464ccd1d2234c41de669429e03bc"},
		{running(63), "c199096f64c282cfd1d2d49ce70fbbfc3438609d04be34ee6e05959a06f82f3a"},
		{running(64), "32170f0d360117a78d11bbfece28b17983a8428942e90f5d5270e2dbf5653ab5"},
		{running(65), "775fecb345397c76db9a94e7cd717e8e9d8070a1f6170f148698df272c032974"},
		{running(128), "0336a3d812b1f4834e41c936755409afd3be1375084319a756646df586ba097f"},
		{running(129), "58daaf58d7e65450c3bc43203845884cfbdced070237ffce7b00aef7c5003329"},
		{running(192), "c592a9bc6ede2bf41e546f2de4e1a51b92369f1fe4b6a989d80b6e0768b8b96e"},
		{running(193), "4a66496cb2e73cd6ead6bebd395606bcd3cd35768bdf39a776bc4a187c20044f"},
		{running(320), "af957bb07e94cec8282dde4982aaf87335982aab94120eea1e8f57f0bfc5fa5a"},
		{running(321), "68178bea14f697b47e47c5451a4e5bdd1f398539879f5a356511f0aca0e166e0"},
		{running(449), "d039baba4f2bd30fd51e00f0976a5339ade4dfc3281944ea40efd25fc520fb5b"},
		{running(1000), "71fc08759fc4e16d524cd9e6397e6c69dfcb4842686119dfee2b58453bb6a5b0"},
		{running(65536), "341c04f19abe1d8203f1ba3d12cac0733c3174c219e92da9e231d6511f067ec0"},
		{running(api.MaxPack), "ee4a7c1e3ad10dbc91efd80303b8e3a18bd596f929faac848c61f65bdb97ac76"},
		{make([]byte, 64), "00776b7d3b95a31c279f16ce7e133c6a8be4dbf10c55e71ce80d2106697e5991"},
		{make([]byte, 65), "129d217d3d9e33d84702e7fea578389dc88a55d9e75aa85e4d73b5756d37057e"},
	} {
		id := proof.Root(c.b)
		if got := hex.EncodeToString(id[:]); got != c.want {
			t.Errorf("%d bytes: %s, want %s", len(c.b), got, c.want)
		}
	}
}

func TestP61RootWords(t *testing.T) {
	for _, n := range append(lengths(), api.MaxPack-64, api.MaxPack-63, api.MaxPack, api.MaxPack+1) {
		if b := some(n); proof.Root(b) != known(b) {
			t.Error(n, "bytes")
		}
	}
}

func TestP61RootEachBitCounts(t *testing.T) {
	for _, n := range []int{1, 64, 65, 128, 130, 321} {
		b := some(n)
		seen := map[api.Id]int{proof.Root(b): -1}
		for i := range n * 8 {
			b[i/8] ^= 1 << (i % 8)
			id := proof.Root(b)
			if j, ok := seen[id]; ok {
				t.Error("bits", i, "and", j, "of", n, "bytes")
			}
			seen[id] = i
			b[i/8] ^= 1 << (i % 8)
		}
	}
}

// TestP61RootIsNoOther: neither noughts behind, nor another order, nor digests as leaves have one root.
func TestP61RootIsNoOther(t *testing.T) {
	seen := map[api.Id]int{}
	for n := range 700 {
		id := proof.Root(make([]byte, n))
		if m, ok := seen[id]; ok {
			t.Error(m, "and", n, "noughts have one root")
		}
		seen[id] = n
	}
	b := some(128)
	if proof.Root(b) == proof.Root(append(bytes.Clone(b[64:]), b[:64]...)) {
		t.Error("two leaves the other way round")
	}
	one, two := of([]byte{0}, b[:64]), of([]byte{0}, b[64:])
	if proof.Root(b) == proof.Root(append(one[:], two[:]...)) {
		t.Error("two leaves' digests as a leaf")
	}
	if proof.Root(b) == top(cut(b)) || proof.Root(b[:64]) == one {
		t.Error("a root is what stands above, as it is")
	}
}

// TestP61ProvePublished: what another program says: the leaf's bytes, how many digests, and the digest of them.
func TestP61ProvePublished(t *testing.T) {
	for _, c := range []struct {
		n, i, front, bytes, digests int
		want                        string
	}{
		{65, 0, 0x00, 64, 1, "8cb18209922252cd7ab761c18ceaaf4697894f38c73bd048dd377958d28d7f57"},
		{65, 1, 0xc5, 1, 1, "a334650212f348d6ad2a9c43f89ec26947cf1e4be74cff819c292f550569e68c"},
		{129, 2, 0x8f, 1, 1, "a6f9e5dffee2772d4defd82d6d353a29d638a6d5c93a08e9fdd416bbefa72a39"},
		{129, 1, 0xc5, 64, 2, "63328ae6c2d0fbf9a59aeca75ae52581a375ce321a12036f1d53d458608757bf"},
		{321, 0, 0x00, 64, 3, "6ef044e4154d16753b79c8f017bde8cab61d9ba50e43cac21587184019c15201"},
		{321, 4, 0x23, 64, 2, "b04ad7516eacd34cbcebcaf0b92f0739a8461fd7ee8efb1a7ada54f35ffdc9c6"},
		{321, 5, 0xe8, 1, 2, "93a9bf1ec998c4a69b82ea445061f6362c70d3a667ae610a5f04bfd543eb11df"},
		{385, 6, 0xb2, 1, 2, "27e09fb746cf5ff64735c9d4e9cb526babe20f2481ae37a324680b34926722b2"},
		{449, 6, 0xb2, 64, 3, "4b35b0488bf4eb53931ce831928a1dc7ce56a79237bb8ceaec21326fd5939bc5"},
		{449, 7, 0x7c, 1, 3, "1efaee1520fbc9509ae566a87650352f9dd855aee94eea6f202c72b9ba0a8ae4"},
		{1000, 15, 0xc2, 40, 4, "453696e62cd3afa75c1732593d6b52cfdb8734249b2b20f5b8840f40e8e3506e"},
		{api.MaxPack, 0, 0x00, 64, 14, "266491ce7f0ebf0d2a05b822bf4cbd36c851a31b527adf9ffc2afdf33a23fb06"},
		{api.MaxPack, 16383, 0x5d, 64, 14, "907ab9f8e7c4aac2bb6dba5a3e82a753ff8a89ad8ab1a895d69c872085c75468"},
		{api.MaxPack - 64, 16382, 0x93, 64, 13, "567ec5ef56b5edb424648457a2a1462fbb7209f579c8059ccb47616f9879441c"},
		{api.MaxPack - 63, 16383, 0x5d, 1, 14, "907ab9f8e7c4aac2bb6dba5a3e82a753ff8a89ad8ab1a895d69c872085c75468"},
	} {
		leaf, way := proved(t, running(c.n), c.i)
		if len(leaf) != c.bytes || int(leaf[0]) != c.front {
			t.Error("leaf", c.i, "of", c.n, "bytes:", len(leaf), "bytes")
		}
		h := sha256.New()
		for _, id := range way {
			h.Write(id[:])
		}
		if got := hex.EncodeToString(h.Sum(nil)); len(way) != c.digests || got != c.want {
			t.Error("leaf", c.i, "of", c.n, "bytes:", len(way), "digests,", got, "want", c.want)
		}
	}
}

func TestP61ProveNoBytes(t *testing.T) {
	for _, b := range [][]byte{nil, {}} {
		leaf, way := proved(t, b, 0)
		if len(leaf) != 0 || len(way) != 0 {
			t.Error("leaf 0 of no bytes:", leaf, way)
		}
	}
}

func TestP61ProveWords(t *testing.T) {
	for _, n := range lengths() {
		b := some(n)
		l := cut(b)
		for i := range l {
			leaf, way := proved(t, b, i)
			if !bytes.Equal(leaf, l[i]) {
				t.Error("leaf", i, "of", n, "bytes is another one")
			}
			if !slices.Equal(way, wayOf(l, i)) {
				t.Error("leaf", i, "of", n, "bytes goes another way")
			}
		}
	}
}

func TestP61ProveRange(t *testing.T) {
	for _, n := range []int{0, 1, 63, 64, 65, 128, 129, 321, 4096} {
		b := some(n)
		many := len(cut(b))
		for _, i := range []int{-1, -2, -64, many, many + 1, 2 * many, many * 64, 1 << 32, math.MaxInt, math.MaxInt - 1, math.MinInt, math.MinInt + 1, math.MaxInt / 64, math.MaxInt/64 + 1, math.MinInt / 64} {
			leaf, way, err := proof.Prove(b, i)
			if err != api.ErrRange || len(leaf) != 0 || len(way) != 0 {
				t.Error("leaf", i, "of", n, "bytes:", len(leaf), len(way), err)
			}
		}
		proved(t, b, many-1)
	}
	if _, _, err := proof.Prove(nil, 1); err != api.ErrRange {
		t.Error("leaf 1 of nil:", err)
	}
}

// --- P6.2: what is checked

// places are of few leaves all, and of many some, at the edges.
func places() [][2]int {
	var l [][2]int
	for n := 1; n <= 70; n++ {
		for i := range n {
			l = append(l, [2]int{n, i})
		}
	}
	for _, n := range []int{127, 128, 129, 1<<16 - 1, 1 << 16, 1<<16 + 1, 1<<31 - 1, 1 << 31, 1<<31 + 1, 1<<62 - 1, 1 << 62, 1<<62 + 1, math.MaxInt - 1, math.MaxInt} {
		for _, i := range []int{0, 1, 2, n/2 - 1, n / 2, n/2 + 1, n/4*3 + 1, n - 4, n - 3, n - 2, n - 1} {
			l = append(l, [2]int{n, i})
		}
	}
	return l
}

func TestP62Words(t *testing.T) {
	r := rand.New(rand.NewSource(62))
	for _, p := range places() {
		n, i := p[0], p[1]
		way := ids(r, size(n, i))
		for _, leaf := range [][]byte{nil, {}, {0}, some(1), some(31), some(63), some(64)} {
			checks(t, api.OK, made(n, i, leaf, way), n, i, leaf, way)
		}
	}
}

// TestP62Range: ahead of all that might be wrong with the proof, and where all else is right.
func TestP62Range(t *testing.T) {
	b := some(300)
	leaf, way := proved(t, b, 4)
	roots := []api.Id{{}, known(b), known(nil)}
	for _, root := range roots {
		for _, p := range [][2]int{
			{0, 0}, {-1, 0}, {-5, 4}, {math.MinInt, 0}, {math.MinInt, math.MinInt}, {0, -1}, {-1, -2}, {-2, -1},
			{1, 1}, {1, -1}, {5, 5}, {5, 6}, {5, -1}, {5, -4}, {5, math.MaxInt}, {5, math.MinInt}, {4, 4},
			{math.MaxInt, math.MaxInt}, {math.MaxInt, -1}, {math.MaxInt, math.MinInt}, {1 << 32, 1 << 32},
		} {
			n, i := p[0], p[1]
			checks(t, api.ErrRange, root, n, i, leaf, way)
			checks(t, api.ErrRange, root, n, i, nil, nil)
			checks(t, api.ErrRange, root, n, i, some(65), make([]api.Id, 99))
		}
	}
	checks(t, api.ErrRange, counted(0, of([]byte{0})), 0, 0, nil, nil, "no leaf")
	checks(t, api.ErrRange, counted(1, of([]byte{0}, leaf)), 1, 1, leaf, nil, "behind the last one")
}

// TestP62Size: a way with more or fewer digests is none, whatever it comes to.
func TestP62Size(t *testing.T) {
	r := rand.New(rand.NewSource(26))
	for _, p := range places() {
		n, i := p[0], p[1]
		way := ids(r, size(n, i))
		leaf := some(40)
		root := made(n, i, leaf, way)
		for _, more := range [][]api.Id{{{}}, {root}, {{}, {}}, ids(r, 1), ids(r, 3), way, way[:min(1, len(way))]} {
			if len(more) > 0 {
				checks(t, api.ErrProof, root, n, i, leaf, append(slices.Clone(way), more...), "behind")
				checks(t, api.ErrProof, root, n, i, leaf, append(slices.Clone(more), way...), "ahead")
			}
		}
		for k := range way {
			checks(t, api.ErrProof, root, n, i, leaf, way[:k], "fewer")
			checks(t, api.ErrProof, root, n, i, leaf, way[k+1:], "fewer")
			checks(t, api.ErrProof, root, n, i, leaf, slices.Delete(slices.Clone(way), k, k+1), "one less")
		}
		checks(t, api.OK, root, n, i, leaf, way)
	}
}

// TestP62SizeFolded: who stops early, or puts an odd last one together with something, comes to the root; it is no proof.
func TestP62SizeFolded(t *testing.T) {
	b := some(5 * 64)
	l := cut(b)
	four, last := top(l[:4]), top(l[4:])
	leaf := l[4]
	checks(t, api.OK, known(b), 5, 4, leaf, []api.Id{four})
	checks(t, api.ErrProof, counted(5, last), 5, 4, leaf, nil, "no way at all")
	twice := counted(5, pair(four, pair(last, last)))
	checks(t, api.ErrProof, twice, 5, 4, leaf, []api.Id{last, four}, "an odd one with itself")
	checks(t, api.ErrProof, twice, 5, 4, leaf, []api.Id{four}, "an odd one with itself")
	checks(t, api.ErrProof, counted(5, pair(last, four)), 5, 4, leaf, []api.Id{four}, "the other way round")
	none := counted(5, pair(four, pair(last, api.Id{})))
	checks(t, api.ErrProof, none, 5, 4, leaf, []api.Id{{}, four}, "an odd one with noughts")
}

// TestP62Leaf: at most 64 bytes, at each place; more of them are no leaf, whatever they come to.
func TestP62Leaf(t *testing.T) {
	r := rand.New(rand.NewSource(64))
	for _, p := range [][2]int{{1, 0}, {2, 0}, {2, 1}, {3, 2}, {5, 1}, {5, 4}, {70, 33}, {math.MaxInt, 7}} {
		n, i := p[0], p[1]
		way := ids(r, size(n, i))
		for many := range 65 {
			checks(t, api.OK, made(n, i, some(many), way), n, i, some(many), way)
		}
		for _, many := range []int{65, 66, 96, 127, 128, 129, 1000, api.MaxPack} {
			checks(t, api.ErrProof, made(n, i, some(many), way), n, i, some(many), way)
		}
	}
}

// TestP62EachBitCounts: of the root, the leaf and the way.
func TestP62EachBitCounts(t *testing.T) {
	b := some(6*64 + 9)
	root := known(b)
	for i, leaf := range cut(b) {
		way := wayOf(cut(b), i)
		for k := range len(root) * 8 {
			other := root
			other[k/8] ^= 1 << (k % 8)
			checks(t, api.ErrProof, other, 7, i, leaf, way, "bit", k, "of the root")
		}
		for k := range len(leaf) * 8 {
			other := bytes.Clone(leaf)
			other[k/8] ^= 1 << (k % 8)
			checks(t, api.ErrProof, root, 7, i, other, way, "bit", k, "of the leaf")
		}
		for k := range len(way) * 256 {
			other := slices.Clone(way)
			other[k/256][k%256/8] ^= 1 << (k % 8)
			checks(t, api.ErrProof, root, 7, i, leaf, other, "bit", k, "of the way")
		}
		for k := range len(leaf) {
			checks(t, api.ErrProof, root, 7, i, leaf[:k], way, "the leaf's front")
			checks(t, api.ErrProof, root, 7, i, leaf[k+1:], way, "the leaf's end")
		}
		checks(t, api.ErrProof, root, 7, i, append(bytes.Clone(leaf[:min(len(leaf), 63)]), 0), way, "a nought behind")
		checks(t, api.OK, root, 7, i, leaf, way)
	}
}

func TestP62Order(t *testing.T) {
	b := some(16 * 64)
	root := known(b)
	for i, leaf := range cut(b) {
		way := wayOf(cut(b), i)
		for j := range way {
			for k := range j {
				other := slices.Clone(way)
				other[j], other[k] = other[k], other[j]
				checks(t, api.ErrProof, root, 16, i, leaf, other, "digests", k, "and", j, "change places")
			}
		}
		back := slices.Clone(way)
		slices.Reverse(back)
		checks(t, api.ErrProof, root, 16, i, leaf, back, "the way down")
	}
}

// TestP62Many: how many leaves there are is a part of what is proved.
func TestP62Many(t *testing.T) {
	for _, n := range []int{1, 2, 3, 4, 5, 7, 8, 9, 16, 17} {
		b := some(n * 64)
		for i, leaf := range cut(b) {
			way := wayOf(cut(b), i)
			for m := i + 1; m < 40; m++ {
				if m != n {
					checks(t, api.ErrProof, known(b), m, i, leaf, way, n, "leaves")
				}
			}
		}
	}
	root := counted(3, pair(of([]byte{0}, some(64)), of([]byte{0}, some(9))))
	checks(t, api.ErrProof, root, 2, 0, some(64), []api.Id{of([]byte{0}, some(9))}, "what stands above two, as of three")
	for k := range 64 {
		if n := 1 << k; n > 1 {
			checks(t, api.ErrProof, counted(n, of([]byte{0})), 1, 0, nil, nil, "one leaf, as of", n)
		}
	}
}

// TestP62OtherRoots: digests that are no root don't count as one.
func TestP62OtherRoots(t *testing.T) {
	for _, n := range []int{0, 1, 64, 65, 320} {
		b := some(n)
		l := cut(b)
		over := top(l)
		eight := binary.BigEndian.AppendUint64(nil, uint64(len(l)))
		four := binary.LittleEndian.AppendUint32(nil, uint32(len(l)))
		for i, leaf := range l {
			for k, root := range []api.Id{
				{}, over, of(over[:]), of([]byte{2}, over[:]), of([]byte{2}, eight, over[:]), of([]byte{2}, four, over[:]),
				counted(len(b), over), counted(len(l)-1, over), counted(i, over), of(b), of([]byte{0}, b), of([]byte{0}, leaf), known(append(bytes.Clone(b), 0)),
			} {
				if root != known(b) {
					checks(t, api.ErrProof, root, len(l), i, leaf, wayOf(l, i), "root", k)
				}
			}
		}
	}
}

// TestP62DigestsAsLeaf: what stands in the midst of a tree is no leaf of it.
func TestP62DigestsAsLeaf(t *testing.T) {
	b := some(4 * 64)
	l := cut(b)
	one, two, right := top(l[:1]), top(l[1:2]), top(l[2:])
	leaf := append(one[:], two[:]...)
	way := []api.Id{right}
	checks(t, api.ErrProof, known(b), 2, 0, leaf, way)
	checks(t, api.ErrProof, known(b), 4, 0, leaf, way)
	checks(t, api.ErrProof, counted(2, top(l)), 2, 0, leaf, way, "of a root of two")
	checks(t, api.ErrProof, counted(1, top(l[:2])), 1, 0, leaf, nil, "of a root of one")
	checks(t, api.ErrProof, counted(1, top(l[:2])), 1, 0, append([]byte{1}, leaf...), nil, "of a root of one")
	checks(t, api.ErrProof, counted(1, one), 1, 0, one[:], nil, "a digest as its leaf")
}

func TestP62SameAgain(t *testing.T) {
	b := some(700)
	leaf, way := wayOfLeaf(b, 6)
	for range 3 {
		checks(t, api.OK, known(b), 11, 6, leaf, way)
		checks(t, api.ErrProof, known(b), 11, 7, leaf, way)
		checks(t, api.ErrRange, known(b), 11, 11, leaf, way)
		proof.Two(known(b), 11, 6, leaf, way, leaf, way)
		proved(t, some(99), 1)
	}
	checks(t, api.OK, known(b), 11, 6, leaf, way)
}

// wayOfLeaf is a leaf, and its way, by the promise's words.
func wayOfLeaf(b []byte, i int) ([]byte, []api.Id) {
	return cut(b)[i], wayOf(cut(b), i)
}

// --- P6.4: what is proved is checked, at its place

func TestP64Checked(t *testing.T) {
	for _, n := range lengths() {
		b := some(n)
		root, many := proof.Root(b), proof.Leaves(b)
		for i := range many {
			leaf, way := proved(t, b, i)
			checks(t, api.OK, root, many, i, leaf, way, n, "bytes")
		}
	}
	for _, b := range [][]byte{nil, {}, {0}, make([]byte, 64), make([]byte, 1000), bytes.Repeat([]byte{255}, 321)} {
		for i := range proof.Leaves(b) {
			leaf, way := proved(t, b, i)
			checks(t, api.OK, proof.Root(b), proof.Leaves(b), i, leaf, way)
		}
	}
}

func TestP64CheckedBig(t *testing.T) {
	for _, n := range []int{api.MaxPack - 64, api.MaxPack - 63, api.MaxPack, api.MaxPack + 1} {
		b := some(n)
		root, many := proof.Root(b), proof.Leaves(b)
		for _, i := range []int{0, 1, 8191, 8192, 12345, many - 2, many - 1} {
			leaf, way := proved(t, b, i)
			checks(t, api.OK, root, many, i, leaf, way, n, "bytes")
		}
	}
}

// TestP64Place: leaves that are unlike are each proved at one place alone.
func TestP64Place(t *testing.T) {
	for many := 1; many <= 40; many++ {
		b := some(many*64 - 30)
		root := proof.Root(b)
		for i := range many {
			leaf, way := proved(t, b, i)
			for j := range many {
				want := api.ErrProof
				if i == j {
					want = api.OK
				}
				checks(t, want, root, many, j, leaf, way, "the proof of", i)
			}
		}
	}
}

// TestP64PlaceAlike: leaves that are the same, with ways that aren't, are so too.
func TestP64PlaceAlike(t *testing.T) {
	b := bytes.Repeat(some(64), 7)
	for i := range 7 {
		_, way := proved(t, b, i)
		for j := range 7 {
			if _, other := proved(t, b, j); !slices.Equal(way, other) {
				checks(t, api.ErrProof, proof.Root(b), 7, j, some(64), way, "the proof of", i)
			}
		}
	}
}

// TestP64Others: other bytes' proofs are none of these.
func TestP64Others(t *testing.T) {
	a, b := some(640), append(some(600), make([]byte, 40)...)
	for i := range 10 {
		leaf, way := proved(t, b, i)
		checks(t, api.ErrProof, proof.Root(a), 10, i, leaf, way)
		own, ownWay := proved(t, a, i)
		checks(t, api.ErrProof, proof.Root(a), 10, i, leaf, ownWay)
		checks(t, api.ErrProof, proof.Root(a), 10, i, own, way)
	}
}

// --- what is handed in stays as it was

// TestStays: neither bytes nor digests, nor what stands ahead of them and behind them in their memory.
func TestStays(t *testing.T) {
	for _, n := range []int{0, 1, 63, 64, 65, 128, 129, 321, 700} {
		memory := some(n + 200)
		was := bytes.Clone(memory)
		b := memory[70 : 70+n]
		root, many := proof.Root(b), proof.Leaves(b)
		for i := range many {
			_, err := proofOf(b, i)
			if err != api.OK {
				t.Fatal(err)
			}
			ways := append(make([]api.Id, 3), wayOf(cut(b), i)...)
			ways = append(ways, make([]api.Id, 3)...)
			waysWere := slices.Clone(ways)
			way := ways[3 : len(ways)-3]
			from := 70 + 64*i
			leaf := memory[from:min(from+64, 70+n)]
			checks(t, api.OK, root, many, i, leaf, way)
			checks(t, api.ErrProof, root, many, i, memory[:64], way)
			checks(t, api.ErrProof, root, many, i, memory[:65], ways)
			proof.Two(root, many, i, leaf, way, leaf, way)
			proof.Two(root, many, i, leaf, way, memory[:64], way)
			if !slices.Equal(ways, waysWere) {
				t.Error("leaf", i, "of", n, "bytes: digests are changed")
			}
		}
		proof.Prove(b, many)
		if !bytes.Equal(memory, was) {
			t.Error(n, "bytes are changed")
		}
	}
}

// proofOf is a proof whose memory nobody asks for.
func proofOf(b []byte, i int) (int, api.Errno) {
	leaf, way, err := proof.Prove(b, i)
	clear(leaf[:cap(leaf)])
	clear(way[:cap(way)])
	return len(leaf), err
}

// TestNewMemory: a proof shares nothing with the bytes, nor with another proof, and none of it is kept.
func TestNewMemory(t *testing.T) {
	for _, n := range []int{1, 63, 64, 65, 128, 129, 321} {
		b := append(make([]byte, 0, n+200), some(n)...)
		for i, want := range cut(some(n)) {
			leaf, way := proved(t, b, i)
			again, wayAgain := proved(t, b, i)
			clear(b[:cap(b)])
			if !bytes.Equal(leaf, want) || !slices.Equal(way, wayOf(cut(some(n)), i)) {
				t.Fatal("leaf", i, "of", n, "bytes hangs on the memory of the bytes")
			}
			copy(b, some(n))
			clear(append(leaf, make([]byte, 99)...))
			clear(leaf[:cap(leaf)])
			clear(way[:cap(way)])
			if !bytes.Equal(again, want) || !slices.Equal(wayAgain, wayOf(cut(some(n)), i)) {
				t.Fatal("leaf", i, "of", n, "bytes: its memory is another proof's too")
			}
			if !bytes.Equal(b, some(n)) || !bytes.Equal(b[n:cap(b)], make([]byte, cap(b)-n)) {
				t.Fatal("leaf", i, "of", n, "bytes: its memory is that of the bytes")
			}
			if last, _ := proved(t, b, i); !bytes.Equal(last, want) {
				t.Fatal("leaf", i, "of", n, "bytes: its memory is kept")
			}
		}
	}
}

func TestNotKept(t *testing.T) {
	b := some(321)
	root := proof.Root(b)
	leaf, way := proved(t, b, 2)
	clear(b)
	if root != known(some(321)) || proof.Root(b) != known(make([]byte, 321)) {
		t.Error("a root hangs on the memory of what was handed in")
	}
	checks(t, api.OK, root, 6, 2, leaf, way)
	clear(leaf)
	checks(t, api.ErrProof, root, 6, 2, leaf, way)
	copy(leaf, some(321)[128:])
	checks(t, api.OK, root, 6, 2, leaf, way)
	clear(way)
	checks(t, api.ErrProof, root, 6, 2, leaf, way)
}
