package mac_test

import (
	"bytes"
	"crypto/hmac"
	"crypto/sha256"
	"encoding/binary"
	"encoding/hex"
	"math"
	"math/rand"
	"strings"
	"testing"

	"bailee/api"
	"bailee/digest"
	"bailee/mac"
)

// edges are lengths round those at which the digest's tail, or the bytes, take a block more.
var edges = []int{0, 1, 2, 31, 32, 33, 54, 55, 56, 57, 63, 64, 65, 119, 120, 127, 128, 129, 300}

// some are bytes by chance, so many, the same ones in each run.
func some(n int) []byte {
	b := make([]byte, n)
	rand.New(rand.NewSource(int64(n))).Read(b)
	return b
}

// keyOf is a key whose first bytes are these, with noughts behind them.
func keyOf(front ...byte) api.Key {
	var k api.Key
	copy(k[:], front)
	return k
}

// keys are some at the edges, and some by chance.
func keys() []api.Key {
	l := []api.Key{
		{},
		keyOf(1),
		api.Key(bytes.Repeat([]byte{54}, api.Digest)),
		api.Key(bytes.Repeat([]byte{92}, api.Digest)),
		api.Key(bytes.Repeat([]byte{54 ^ 92}, api.Digest)),
		api.Key(bytes.Repeat([]byte{255}, api.Digest)),
		api.Key(append(make([]byte, api.Digest-1), 1)),
	}
	r := rand.New(rand.NewSource(3))
	for range 5 {
		var k api.Key
		r.Read(k[:])
		l = append(l, k)
	}
	return l
}

// known is what others say that a key says.
func known(key api.Key, b []byte) api.Id {
	h := hmac.New(sha256.New, key[:])
	h.Write(b)
	return api.Id(h.Sum(nil))
}

// --- P3.1: what a key says of bytes

func TestP31Published(t *testing.T) {
	counting := make([]byte, 25)
	for i := range counting {
		counting[i] = byte(i + 1)
	}
	for _, c := range []struct {
		key  []byte
		text string
		want string
	}{
		{bytes.Repeat([]byte{0x0b}, 20), "Hi There", "b0344c61d8db38535ca8afceaf0bf12b881dc200c9833da726e9376c2e32cff7"},
		{[]byte("Jefe"), "what do ya want for nothing?", "5bdcc146bf60754e6a042426089575c75a003f089d2739839dec58b964ec3843"},
		{bytes.Repeat([]byte{0xaa}, 20), strings.Repeat("\xdd", 50), "773ea91e36800e46854db8ebd09181a72959098b3ef8c122d9635514ced565fe"},
		{counting, strings.Repeat("\xcd", 50), "82558a389a443c0ea4cc819899f2083a85f0faa3e578f8077a2e3ff46729665b"},
		{nil, "", "b613679a0814d9ec772f95d778c35fc5ff1697c493715653c6c712144292c5ad"},
	} {
		id := mac.Of(keyOf(c.key...), []byte(c.text))
		if got := hex.EncodeToString(id[:]); got != c.want {
			t.Errorf("%x of %q: %s, want %s", c.key, c.text, got, c.want)
		}
	}
}

// TestP31Words is the promise, word by word.
func TestP31Words(t *testing.T) {
	for _, key := range keys() {
		var in, out [64]byte
		copy(in[:], key[:])
		copy(out[:], key[:])
		for i := range in {
			in[i] ^= 54
			out[i] ^= 92
		}
		a, b := some(70), some(9)
		inner := digest.Of(in[:], a, b)
		if mac.Of(key, a, b) != digest.Of(out[:], inner[:]) {
			t.Errorf("%x", key)
		}
	}
}

func TestP31NoBytes(t *testing.T) {
	for _, key := range keys() {
		want := known(key, nil)
		if mac.Of(key) != want {
			t.Errorf("%x of no rows", key)
		}
		for i, l := range [][][]byte{nil, {}, {nil}, {{}}, {nil, {}, nil}, make([][]byte, 100)} {
			if mac.Of(key, l...) != want {
				t.Errorf("%x of list %d of no bytes", key, i)
			}
		}
	}
}

func TestP31Lengths(t *testing.T) {
	for _, key := range keys() {
		for n := range 200 {
			b := some(n)
			if mac.Of(key, b) != known(key, b) {
				t.Errorf("%x of %d bytes", key, n)
			}
		}
	}
	key := keys()[8]
	for _, n := range []int{1000, 4096, api.MaxBlob - 1, api.MaxBlob, api.MaxBlob + 1, api.MaxPack} {
		b := some(n)
		if mac.Of(key, b) != known(key, b) {
			t.Error(n, "bytes")
		}
	}
}

func TestP31EachBitCounts(t *testing.T) {
	key, b := keys()[9], some(100)
	seen := map[api.Id]bool{mac.Of(key, b): true}
	for i := range len(key) * 8 {
		other := key
		other[i/8] ^= 1 << (i % 8)
		id := mac.Of(other, b)
		if seen[id] || id != known(other, b) {
			t.Error("bit", i, "of the key")
		}
		seen[id] = true
	}
	for i := range len(b) * 8 {
		b[i/8] ^= 1 << (i % 8)
		id := mac.Of(key, b)
		if seen[id] || id != known(key, b) {
			t.Error("bit", i, "of the bytes")
		}
		seen[id] = true
		b[i/8] ^= 1 << (i % 8)
	}
}

// TestP31NotOfDigest: who knows what was said of bytes, and no key, can't say it of more bytes; nor is a row a part of the key.
func TestP31NotOfDigest(t *testing.T) {
	key, b := keys()[7], some(40)
	said := mac.Of(key, b)
	for i, id := range []api.Id{
		digest.Of(key[:], b),
		digest.Of(b, key[:]),
		digest.Of(b),
		mac.Of(api.Key{}, key[:], b),
		mac.Of(api.Key{}, b),
		mac.Of(key, b, []byte{0}),
		mac.Of(key, []byte{0}, b),
		mac.Of(key, b, b),
	} {
		if id == said {
			t.Error(i, "is what the key says of other bytes")
		}
	}
}

func TestP31SameAgain(t *testing.T) {
	k := keys()
	a, b := some(100), some(77)
	want := mac.Of(k[8], a)
	mac.Of(k[9], b)
	mac.Derive(k[9], "name", 7)
	mac.Same(want, api.Id{})
	if mac.Of(k[8], a) != want {
		t.Error("a call hangs on those ahead of it")
	}
}

// --- P3.2: Same and Derive

func TestP32Same(t *testing.T) {
	d := digest.Of([]byte("a digest"))
	if !mac.Same(d, d) || !mac.Same(api.Id{}, api.Id{}) {
		t.Error("a digest and itself")
	}
	for _, key := range keys() {
		b := some(30)
		if !mac.Same(mac.Of(key, b), known(key, b)) || !mac.Same(api.Id(key), api.Id(key)) {
			t.Errorf("%x", key)
		}
	}
}

func TestP32SameUnlikeInOne(t *testing.T) {
	for _, a := range []api.Id{{}, digest.Of(nil), api.Id(keys()[5])} {
		for i := range len(a) {
			for by := 1; by < 256; by++ {
				b := a
				b[i] ^= byte(by)
				if mac.Same(a, b) || mac.Same(b, a) {
					t.Fatal("byte", i, "xor", by)
				}
			}
		}
	}
}

// TestP32SameUnlikeInMore: what is unlike at one place doesn't weigh up what is unlike at another.
func TestP32SameUnlikeInMore(t *testing.T) {
	a := digest.Of([]byte("more"))
	for i := range len(a) {
		for j := range i {
			for _, by := range [][2]byte{{1, 1}, {128, 128}, {255, 255}, {1, 255}, {1, 2}, {85, 170}} {
				b := a
				b[i] ^= by[0]
				b[j] ^= by[1]
				c := a
				c[i] += by[0]
				c[j] -= by[0]
				if mac.Same(a, b) || mac.Same(b, a) || mac.Same(a, c) || mac.Same(c, a) {
					t.Fatal("bytes", i, j, by)
				}
			}
		}
	}
	all := a
	for i := range all {
		all[i] ^= 255
	}
	turned := a
	for i := range turned {
		turned[i] = a[len(a)-1-i]
	}
	if mac.Same(a, all) || mac.Same(a, turned) || mac.Same(a, api.Id{}) || mac.Same(api.Id{}, a) {
		t.Error("all bytes are unlike")
	}
}

// deriving is what others say that a key's key is.
func deriving(key api.Key, name string, n uint64) api.Key {
	b := append([]byte(name), 0)
	return api.Key(known(key, binary.LittleEndian.AppendUint64(b, n)))
}

// numbers are edges of numbers of 64 bits: each byte of its own, all of them, none.
func numbers() []uint64 {
	l := []uint64{0, 1, 255, 256, 0x0102030405060708, math.MaxUint32, math.MaxUint32 + 1, math.MaxInt64, math.MaxUint64}
	for i := range 64 {
		l = append(l, 1<<i)
	}
	return l
}

func TestP32Derive(t *testing.T) {
	names := []string{"", "a", "ab", "b", "seal", "\x00", "a\x00", "\x00a", "\xff\xfe", "é", strings.Repeat("n", 64), strings.Repeat("n", 1000)}
	for _, key := range keys() {
		for _, name := range names {
			for _, n := range numbers() {
				if mac.Derive(key, name, n) != deriving(key, name, n) {
					t.Errorf("%x, %q, %d", key, name, n)
				}
			}
		}
	}
}

func TestP32DeriveWords(t *testing.T) {
	key := keys()[10]
	want := mac.Of(key, []byte("pack"), []byte{0}, []byte{8, 7, 6, 5, 4, 3, 2, 1})
	if mac.Derive(key, "pack", 0x0102030405060708) != api.Key(want) {
		t.Error("of a name and a number")
	}
	if mac.Derive(key, "", 0) != api.Key(mac.Of(key, make([]byte, 9))) {
		t.Error("of no name and 0")
	}
}

// TestP32DeriveUnlike: no two keys, names and numbers here make one key.
func TestP32DeriveUnlike(t *testing.T) {
	type from struct {
		key  api.Key
		name string
		n    uint64
	}
	seen := map[api.Key]from{}
	for _, key := range keys() {
		seen[key] = from{key: key}
	}
	names := []string{"", "a", "A", "ab", "a\x00", "\x00a", "\x00", "\x00\x00", "a\x00\x01\x00\x00\x00\x00\x00\x00\x00", "\x01"}
	for _, key := range keys() {
		for _, name := range names {
			for _, n := range []uint64{0, 1, 'a', 256, 1 << 56, math.MaxUint64} {
				now := from{key, name, n}
				k := mac.Derive(key, name, n)
				if was, ok := seen[k]; ok {
					t.Errorf("%+v and %+v make one key", was, now)
				}
				seen[k] = now
			}
		}
	}
}

// --- P3.3: how bytes are cut into rows doesn't matter

func TestP33CutsOfTwo(t *testing.T) {
	for _, key := range keys() {
		for _, n := range edges {
			b := some(n)
			want := known(key, b)
			for i := range n + 1 {
				if mac.Of(key, b[:i], b[i:]) != want {
					t.Errorf("%x of %d bytes, cut at %d", key, n, i)
				}
				if mac.Of(key, nil, b[:i], []byte{}, b[i:], nil) != want {
					t.Errorf("%x of %d bytes, cut at %d, with empty rows", key, n, i)
				}
			}
		}
	}
}

func TestP33CutsOfThree(t *testing.T) {
	key := keys()[11]
	for _, n := range []int{3, 32, 55, 56, 64, 65, 120} {
		b := some(n)
		want := known(key, b)
		for i := range n + 1 {
			for j := i; j <= n; j++ {
				if mac.Of(key, b[:i], b[i:j], b[j:]) != want {
					t.Error(n, "bytes, cut at", i, j)
				}
			}
		}
	}
}

func TestP33ManyRows(t *testing.T) {
	r := rand.New(rand.NewSource(1))
	key := keys()[7]
	for range 300 {
		b := some(r.Intn(2000))
		var l [][]byte
		for left := b; len(left) > 0; {
			n := min(len(left), r.Intn(3)*r.Intn(100))
			l = append(l, left[:n])
			left = left[n:]
		}
		if mac.Of(key, l...) != known(key, b) {
			t.Fatal(len(b), "bytes in", len(l), "rows")
		}
	}
	bytewise := make([][]byte, 500)
	all := some(len(bytewise))
	for i := range bytewise {
		bytewise[i] = all[i : i+1]
	}
	if mac.Of(key, bytewise...) != known(key, all) {
		t.Error("rows of a byte each")
	}
}

// TestP33RowTwice: a row may stand there more than once, or within another.
func TestP33RowTwice(t *testing.T) {
	key, b := keys()[8], some(65)
	if mac.Of(key, b, b, b[3:9]) != known(key, append(append(bytes.Clone(b), b...), b[3:9]...)) {
		t.Error("rows of one memory")
	}
}

// --- what is handed in stays as it was

// TestStays: neither the list, nor a row, nor what stands behind them in their memory, nor a key.
func TestStays(t *testing.T) {
	for _, n := range edges {
		memory := some(n + 150)
		was := bytes.Clone(memory)
		all := [][]byte{memory[:n/2], memory[n/2 : n], []byte("behind"), []byte("the list")}
		key := keys()[9]
		keyWas := key
		mac.Of(key, all[:2]...)
		mac.Of(key, all[:0]...)
		mac.Of(key, memory[:n])
		mac.Of(key, key[:], key[:5])
		mac.Derive(key, "name", 1)
		if !bytes.Equal(memory, was) || key != keyWas {
			t.Error(n, "bytes, or the key, are changed")
		}
		if !bytes.Equal(all[0], was[:n/2]) || !bytes.Equal(all[1], was[n/2:n]) || string(all[2]) != "behind" || string(all[3]) != "the list" {
			t.Error("the list of", n, "bytes is changed")
		}
	}
	a, b := digest.Of(nil), digest.Of([]byte("b"))
	wasA, wasB := a, b
	mac.Same(a, b)
	mac.Same(a, a)
	if a != wasA || b != wasB {
		t.Error("Same changes what it looks at")
	}
}

// TestNotKept: what is done with the rows, or the key, or an answer, later is nothing to what was answered.
func TestNotKept(t *testing.T) {
	key, b := keys()[10], []byte("abc")
	keyWas := key
	id, derived := mac.Of(key, b), mac.Derive(key, "abc", 3)
	clear(b)
	clear(key[:])
	if id != known(keyWas, []byte("abc")) || derived != deriving(keyWas, "abc", 3) {
		t.Error("an answer hangs on the memory of what was handed in")
	}
	clear(id[:])
	clear(derived[:])
	if mac.Of(keyWas, []byte("abc")) != known(keyWas, []byte("abc")) || mac.Derive(keyWas, "abc", 3) != deriving(keyWas, "abc", 3) {
		t.Error("an answer's memory is kept")
	}
}
