package digest_test

import (
	"bytes"
	"crypto/sha256"
	"encoding/hex"
	"math/rand"
	"strings"
	"testing"

	"bailee/api"
	"bailee/digest"
)

// edges are lengths round those at which the tail, or the bytes, take a block more.
var edges = []int{0, 1, 2, 3, 54, 55, 56, 57, 62, 63, 64, 65, 66, 118, 119, 120, 121, 127, 128, 129, 183, 184, 191, 192, 193, 300}

// some are bytes by chance, so many, the same ones in each run.
func some(n int) []byte {
	b := make([]byte, n)
	rand.New(rand.NewSource(int64(n))).Read(b)
	return b
}

// known is what others say the digest is.
func known(b []byte) api.Id { return sha256.Sum256(b) }

// rows are texts as rows.
func rows(l ...string) [][]byte {
	out := make([][]byte, len(l))
	for i, s := range l {
		out[i] = []byte(s)
	}
	return out
}

// --- P2.1: what the digest is

func TestP21Published(t *testing.T) {
	for _, c := range []struct {
		l    [][]byte
		want string
	}{
		{rows("a", "bc"), "ba7816bf8f01cfea414140de5dae2223b00361a396177a9cb410ff61f20015ad"},
		{rows("abc"), "ba7816bf8f01cfea414140de5dae2223b00361a396177a9cb410ff61f20015ad"},
		{nil, "e3b0c44298fc1c149afbf4c8996fb92427ae41e4649b934ca495991b7852b855"},
		{rows("abcdbcdecdefdefgefghfghighijhijkijkljklmklmnlmnomnopnopq"), "248d6a61d20638b8e5c026930c3e6039a33ce45964ff2167f6ecedd419db06c1"},
		{rows("abcdefghbcdefghicdefghijdefghijkefghijklfghijklmghijklmnhijklmno", "ijklmnopjklmnopqklmnopqrlmnopqrsmnopqrstnopqrstu"), "cf5b16a778af8380036ce59e7b0492370b249b11e8f07a51afac45037afee9d1"},
		{rows(strings.Repeat("a", 1000000)), "cdc76e5c9914fb9281a1c7e284d73e67f1809a48a497200e046d39ccc7112cd0"},
	} {
		id := digest.Of(c.l...)
		if got := hex.EncodeToString(id[:]); got != c.want {
			t.Errorf("%.40q: %s, want %s", c.l, got, c.want)
		}
	}
}

func TestP21NoBytes(t *testing.T) {
	want := known(nil)
	for i, l := range [][][]byte{nil, {}, {nil}, {{}}, {nil, {}, nil}, make([][]byte, 100)} {
		if digest.Of(l...) != want {
			t.Error("list", i, "of no bytes has a digest of its own")
		}
	}
}

func TestP21Lengths(t *testing.T) {
	for n := range 400 {
		b := some(n)
		if digest.Of(b) != known(b) {
			t.Error(n, "bytes")
		}
	}
	for _, n := range []int{1000, 4095, 4096, 4097, api.MaxBlob - 1, api.MaxBlob, api.MaxBlob + 1, api.MaxPack} {
		b := some(n)
		if digest.Of(b) != known(b) {
			t.Error(n, "bytes")
		}
	}
}

func TestP21Kinds(t *testing.T) {
	for _, n := range edges {
		for c := range 256 {
			b := bytes.Repeat([]byte{byte(c)}, n)
			if digest.Of(b) != known(b) {
				t.Fatal(n, "times", c)
			}
		}
	}
}

// TestP21ManyBits: how many bits there are stands in more than four bytes.
func TestP21ManyBits(t *testing.T) {
	mega := some(1 << 20)
	l := slicesOf(mega, 1<<9)
	l = append(l, []byte("and a few"))
	h := sha256.New()
	for _, row := range l {
		h.Write(row)
	}
	if digest.Of(l...) != api.Id(h.Sum(nil)) {
		t.Error("2^32 bits and a few")
	}
}

func slicesOf(row []byte, n int) [][]byte {
	l := make([][]byte, n)
	for i := range l {
		l[i] = row
	}
	return l
}

func TestP21TailIsNoOther(t *testing.T) {
	seen := map[api.Id]int{}
	for n := range 200 { // each is another's beginning, and noughts
		id := digest.Of(make([]byte, n))
		if m, ok := seen[id]; ok {
			t.Error(m, "and", n, "noughts have one digest")
		}
		seen[id] = n
	}
	padded := append([]byte("abc\x80"), make([]byte, 60)...)
	padded[63] = 24
	if digest.Of(padded) == digest.Of([]byte("abc")) {
		t.Error("bytes and their tail have the digest of the bytes")
	}
}

func TestP21EachBitCounts(t *testing.T) {
	for _, n := range []int{1, 55, 56, 64, 65, 120} {
		b := some(n)
		was := digest.Of(b)
		for i := range n * 8 {
			b[i/8] ^= 1 << (i % 8)
			if digest.Of(b) == was || digest.Of(b) != known(b) {
				t.Error("bit", i, "of", n, "bytes")
			}
			b[i/8] ^= 1 << (i % 8)
		}
	}
}

func TestP21SameAgain(t *testing.T) {
	a, b := some(100), some(77)
	want := digest.Of(a)
	digest.Of(b)
	digest.Two(a, b)
	if digest.Of(a) != want {
		t.Error("a call hangs on those ahead of it")
	}
}

// --- P2.2: bytes that are unlike, with one digest

func TestP22Alike(t *testing.T) {
	for _, n := range edges {
		a := some(n)
		if digest.Two(a, a) || digest.Two(a, bytes.Clone(a)) {
			t.Error(n, "bytes and the same ones")
		}
	}
	if digest.Two(nil, nil) || digest.Two(nil, []byte{}) || digest.Two([]byte{}, nil) || digest.Two([]byte{}, []byte{}) {
		t.Error("no bytes, and none")
	}
}

func TestP22Unlike(t *testing.T) {
	for _, n := range edges {
		a := some(n)
		for i := range n {
			b := bytes.Clone(a)
			b[i] ^= 1
			if digest.Two(a, b) || digest.Two(b, a) {
				t.Error(n, "bytes, unlike at", i)
			}
		}
	}
}

func TestP22UnlikeLength(t *testing.T) {
	all := append(some(300), make([]byte, 100)...)
	for _, n := range edges {
		for _, m := range edges {
			if digest.Two(all[:n], all[:m]) || digest.Two(make([]byte, n), make([]byte, m)) {
				t.Error(n, m)
			}
		}
		if digest.Two(all[:n], nil) || digest.Two(nil, all[:n]) {
			t.Error(n, "bytes, and none")
		}
	}
	padded := append([]byte("abc\x80"), make([]byte, 60)...)
	padded[63] = 24
	if digest.Two(padded, []byte("abc")) || digest.Two([]byte("abc"), []byte("abc\x00")) || digest.Two([]byte("abc"), []byte("abc\x80")) {
		t.Error("bytes, and they with what stands behind them")
	}
}

// --- P2.3: how bytes are cut into rows doesn't matter

func TestP23CutsOfTwo(t *testing.T) {
	for _, n := range edges {
		b := some(n)
		want := known(b)
		for i := range n + 1 {
			if digest.Of(b[:i], b[i:]) != want {
				t.Error(n, "bytes, cut at", i)
			}
			if digest.Of(nil, b[:i], []byte{}, b[i:], nil) != want {
				t.Error(n, "bytes, cut at", i, "with empty rows")
			}
		}
	}
}

func TestP23CutsOfThree(t *testing.T) {
	for _, n := range []int{3, 55, 56, 63, 64, 65, 119, 120, 130} {
		b := some(n)
		want := known(b)
		for i := range n + 1 {
			for j := i; j <= n; j++ {
				if digest.Of(b[:i], b[i:j], b[j:]) != want {
					t.Error(n, "bytes, cut at", i, j)
				}
			}
		}
	}
}

func TestP23RowsOfOneLength(t *testing.T) {
	for _, n := range edges {
		b := some(n)
		want := known(b)
		for size := 1; size <= 130; size++ {
			var l [][]byte
			for i := 0; i < n; i += size {
				l = append(l, b[i:min(n, i+size)])
			}
			if digest.Of(l...) != want {
				t.Error(n, "bytes, in rows of", size)
			}
		}
	}
}

func TestP23ManyRows(t *testing.T) {
	r := rand.New(rand.NewSource(1))
	for range 300 {
		b := some(r.Intn(2000))
		var l [][]byte
		for left := b; len(left) > 0; {
			n := min(len(left), r.Intn(3)*r.Intn(100))
			l = append(l, left[:n])
			left = left[n:]
		}
		if digest.Of(l...) != known(b) {
			t.Fatal(len(b), "bytes in", len(l), "rows")
		}
	}
}

// --- what is handed in stays as it was

// TestStays: neither the list, nor a row, nor what stands behind them in their memory.
func TestStays(t *testing.T) {
	for _, n := range edges {
		memory := some(n + 150)
		was := bytes.Clone(memory)
		all := [][]byte{memory[:n/2], memory[n/2 : n], []byte("behind"), []byte("the list")}
		digest.Of(all[:2]...)
		digest.Of(memory[:n])
		digest.Two(memory[:n], memory[:n/2])
		digest.Two(memory[:n], bytes.Clone(memory[:n]))
		if !bytes.Equal(memory, was) {
			t.Error(n, "bytes are changed")
		}
		if !bytes.Equal(all[0], was[:n/2]) || !bytes.Equal(all[1], was[n/2:n]) || string(all[2]) != "behind" || string(all[3]) != "the list" {
			t.Error("the list of", n, "bytes is changed")
		}
	}
}

// TestNotKept: what is done with the rows later is nothing to what was answered.
func TestNotKept(t *testing.T) {
	b := []byte("abc")
	id := digest.Of(b)
	clear(b)
	if id != known([]byte("abc")) {
		t.Error("an answer hangs on the row's memory")
	}
	clear(id[:])
	if digest.Of([]byte("abc")) != known([]byte("abc")) {
		t.Error("an answer's memory is kept")
	}
}
