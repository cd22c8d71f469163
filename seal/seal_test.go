package seal_test

import (
	"bytes"
	"crypto/hmac"
	"crypto/sha256"
	"encoding/binary"
	"encoding/hex"
	"math"
	"math/rand"
	"testing"

	"bailee/api"
	"bailee/seal"
	"bailee/stream"
)

// edges are lengths round those at which the stream takes a part more, or the digest a block more, behind the nine bytes ahead.
var edges = []int{0, 1, 2, 31, 32, 33, 45, 46, 47, 54, 55, 56, 63, 64, 65, 110, 111, 119, 127, 128, 129, 300}

// text has more bytes than one part of the stream.
const text = "Some text that is hidden, and more of it than one part of the stream has, so that it takes two of them."

// some are bytes by chance, so many, the same ones in each run.
func some(n int) []byte {
	b := make([]byte, n)
	rand.New(rand.NewSource(int64(n))).Read(b)
	return b
}

// running are bytes by a rule that the other program, too, has them by.
func running(n int) []byte {
	b := make([]byte, n)
	for i := range b {
		b[i] = byte(i * 7 % 251)
	}
	return b
}

// counting is a key of 0, 1, 2 and so on.
func counting() api.Key {
	var k api.Key
	for i := range k {
		k[i] = byte(i)
	}
	return k
}

// full is a key of 255.
func full() api.Key {
	return api.Key(bytes.Repeat([]byte{255}, api.Digest))
}

// keys are some at the edges, and some by chance.
func keys() []api.Key {
	l := []api.Key{{}, {0: 1}, {api.Digest - 1: 128}, counting(), full()}
	r := rand.New(rand.NewSource(5))
	for range 3 {
		var k api.Key
		r.Read(k[:])
		l = append(l, k)
	}
	return l
}

// kinds are edges of a byte.
var kinds = []byte{0, 1, 2, 77, 127, 128, 254, 255}

// numbers are edges of numbers of 64 bits: each byte of its own, all of them, none.
func numbers() []uint64 {
	l := []uint64{0, 255, 0x0102030405060708, math.MaxUint32, math.MaxInt64, math.MaxUint64}
	for i := range 64 {
		l = append(l, 1<<i)
	}
	return l
}

// few are some of the numbers.
var few = []uint64{0, 1, 0x0102030405060708, 1 << 32, math.MaxUint64}

// says is what others say that a key says.
func says(key api.Key, b []byte) []byte {
	h := hmac.New(sha256.New, key[:])
	h.Write(b)
	return h.Sum(nil)
}

// keyOf is what others say that a key's key is.
func keyOf(key api.Key, name string, n uint64) api.Key {
	b := append([]byte(name), 0)
	return api.Key(says(key, binary.LittleEndian.AppendUint64(b, n)))
}

// ahead is what stands ahead of what is said of a blob, by the promise's words.
func ahead(key api.Key, kind byte, n uint64, plain []byte) []byte {
	b := binary.LittleEndian.AppendUint64([]byte{kind}, n)
	var nonce [12]byte
	copy(nonce[:], b[1:])
	return append(b, stream.Over(keyOf(key, "hide", uint64(kind)), nonce, plain)...)
}

// vouched are bytes, and what the key of the kind that they begin with says of them.
func vouched(key api.Key, b []byte) []byte {
	return append(bytes.Clone(b), says(keyOf(key, "vouch", uint64(b[0])), b)...)
}

// blob is a blob by the promise's words; it asks for no limit.
func blob(key api.Key, kind byte, n uint64, plain []byte) []byte {
	return vouched(key, ahead(key, kind, n, plain))
}

// sealed is what Seal makes, where it must make something.
func sealed(t *testing.T, key api.Key, kind byte, n uint64, plain []byte) []byte {
	t.Helper()
	b, err := seal.Seal(key, kind, n, plain)
	if err != api.OK {
		t.Fatal("kind", kind, "number", n, "of", len(plain), "bytes:", err)
	}
	return b
}

// opens tells a fault unless a blob is opened as this.
func opens(t *testing.T, key api.Key, b []byte, kind byte, n uint64, plain []byte) {
	t.Helper()
	p, k, m, err := seal.Open(key, b)
	if err != api.OK || !bytes.Equal(p, plain) || k != kind || m != n {
		t.Errorf("%x: kind %d number %d of %d bytes is opened as kind %d number %d of %d bytes: %v", key, kind, n, len(plain), k, m, len(p), err)
	}
}

// refuses tells a fault unless bytes are refused by this error, and nothing is told beside it.
func refuses(t *testing.T, key api.Key, b []byte, want api.Errno, what ...any) {
	t.Helper()
	p, kind, n, err := seal.Open(key, b)
	if err != want || len(p) != 0 || kind != 0 || n != 0 {
		t.Error(append(what, "answers", len(p), "bytes, kind", kind, "number", n, err, "want", want)...)
	}
}

// --- P5.1: a blob

// made is a blob that another program made, and what is in it.
type made struct {
	key   api.Key
	kind  byte
	n     uint64
	plain string
	want  string
}

// known are blobs that another program made.
func known() []made {
	return []made{
		{api.Key{}, 0, 0, "", "000000000000000000a46e5a1ff48ef328ecc84bba073919de14904e3f04649c675271924f545374b7"},
		{api.Key{}, 0, 0, "\x00", "00000000000000000021e70f527dd008d3589f28ced18056ead380ef5320b2dd43aaa2c0afb495b9e466"},
		{counting(), 1, 0, "abc", "010000000000000000f6679373416b72c1a862997e26bd5e79dc470287781e54ffb6081985b8854cc9ee49a9"},
		{counting(), 1, 1, "abc", "0101000000000000004bf1b57f0a4fab7d597ff14537ff11005c6613bd657f88f992f1dce24cf696cda91cff"},
		{counting(), 2, 1, "abc", "020100000000000000e38c318c86c01c081136ee57fabb858fb6b9896e50b3b0ba61e872d3bd22fc1101b36f"},
		{counting(), 7, 0x0102030405060708, text, "07080706050403020104c07ae717b9cc5250ef42e4e9a5b61f5b72041aa09cd7443f0b3a3756553ff89bbceb5c9238fdb2f511e3f50a5f9f73ca52208e3d24d9f0f98eff64e57012d5564c1afd17fc6140e441b91322aa3366eb7fd30a252dba4e46b95487945b924d7a26b29fa1f6d53b1b70de6226fb264a2e3be674e42a8c52ac4689af8c793ba6d86a7c1b48530d"},
		{full(), 255, math.MaxUint64, text, "ffffffffffffffffff81cb23523d7dcd04f3bd0d742b574fb48fe2fdc5e5d4fda1950e272854a520505cf24676e6496b71fd5e441c95e6500a667d3e56687cd01678b0ecf4b27dbb7bf59cabbd85894f9e03ed0a15efe3a7ca94c2ad6f766646ef7dc9464e51631745b7884ac277f32cf6d22ccef4df9704009b68c81e81fa1516ff233193c492326048039971c7c5aa"},
		{counting(), 77, 1 << 32, string(make([]byte, 64)), "4d000000000100000040e18610501a1fc60ae870bcb8d84becb36c78748289d4a94055f2af7f25eb9a703c9b88639f1e1fa0fcf1a5d8c280704e166cce06b021739f42621e22359e3a1fa438f9cb51bedb7438cc4332adff4c7308c8004bea3bb8696dfea075e9205a"},
	}
}

func TestP51Known(t *testing.T) {
	for _, c := range known() {
		if got := hex.EncodeToString(sealed(t, c.key, c.kind, c.n, []byte(c.plain))); got != c.want {
			t.Errorf("%x, kind %d, number %d, %q: %s, want %s", c.key, c.kind, c.n, c.plain, got, c.want)
		}
	}
}

// TestP51KnownLong: what is wanted are the digests of blobs that another program made.
func TestP51KnownLong(t *testing.T) {
	for n, want := range map[int]string{
		1000:            "3d00aded04fe6cc8fe11400be78c52be34168d3f290d77aecc8b6db7aec644a3",
		4096:            "c930243a2f408c91c124eefcec31c76c310471c431814ab97cf579fad56d5d8b",
		api.MaxBlob - 1: "84331a22f5f6cadf4e8f982263c8eb84c92563a76b89051d5aafe459d4817ba8",
		api.MaxBlob:     "3b425c522c5d8a8ee749b05e1998e94e6fbbda6ab51e49e8b398ee25d2d496f6",
	} {
		sum := sha256.Sum256(sealed(t, counting(), 9, 1<<40+5, running(n)))
		if got := hex.EncodeToString(sum[:]); got != want {
			t.Error(n, "bytes:", got, "want", want)
		}
	}
}

// TestP51Words is the promise, word by word.
func TestP51Words(t *testing.T) {
	for _, key := range keys() {
		for _, kind := range kinds {
			for _, n := range few {
				for _, size := range []int{0, 1, 64, 65, 150} {
					plain := some(size)
					if !bytes.Equal(sealed(t, key, kind, n, plain), blob(key, kind, n, plain)) {
						t.Errorf("%x, kind %d, number %d, %d bytes", key, kind, n, size)
					}
				}
			}
		}
	}
}

func TestP51EachKind(t *testing.T) {
	key, plain := keys()[5], some(70)
	for kind := range 256 {
		if !bytes.Equal(sealed(t, key, byte(kind), 3, plain), blob(key, byte(kind), 3, plain)) {
			t.Error("kind", kind)
		}
	}
}

func TestP51Numbers(t *testing.T) {
	key, plain := keys()[6], some(70)
	for _, n := range numbers() {
		if !bytes.Equal(sealed(t, key, 4, n, plain), blob(key, 4, n, plain)) {
			t.Error("number", n)
		}
	}
}

func TestP51Lengths(t *testing.T) {
	if seal.Over != 41 {
		t.Error("Over is", seal.Over)
	}
	key := keys()[7]
	for _, n := range append(edges, 1000, 4095, 4096, api.MaxBlob-1, api.MaxBlob) {
		plain := some(n)
		b := sealed(t, key, 6, 8, plain)
		if len(b) != n+41 || !bytes.Equal(b, blob(key, 6, 8, plain)) {
			t.Error("of", n, "bytes:", len(b))
		}
	}
}

func TestP51Nothing(t *testing.T) {
	for _, key := range keys() {
		want := blob(key, 5, 1<<63, nil)
		for i, plain := range [][]byte{nil, {}, some(70)[:0], make([]byte, 0, 100)} {
			if got := sealed(t, key, 5, 1<<63, plain); len(got) != 41 || !bytes.Equal(got, want) {
				t.Error("of nothing,", i, "as told:", len(got), "bytes")
			}
		}
	}
}

func TestP51Big(t *testing.T) {
	for _, key := range keys() {
		for _, n := range []int{api.MaxBlob + 1, api.MaxBlob + 2, api.MaxBlob + 41, 2 * api.MaxBlob, api.MaxPack} {
			if b, err := seal.Seal(key, 3, 7, make([]byte, n)); err != api.ErrBig || len(b) != 0 {
				t.Error("of", n, "bytes:", len(b), err)
			}
		}
	}
}

// TestP51Unlike: no two keys, kinds and numbers hide bytes alike, or say the same of them.
func TestP51Unlike(t *testing.T) {
	hidden, said := map[string]bool{}, map[string]bool{}
	plain := make([]byte, 40)
	for _, key := range keys() {
		for _, kind := range kinds {
			for _, n := range numbers() {
				b := sealed(t, key, kind, n, plain)
				over, by := string(b[9:49]), string(b[49:])
				if hidden[over] || said[by] {
					t.Errorf("%x, kind %d, number %d", key, kind, n)
				}
				hidden[over], said[by] = true, true
			}
		}
	}
}

func TestP51SameAgain(t *testing.T) {
	k, plain := keys(), some(150)
	want := sealed(t, k[5], 3, 9, plain)
	sealed(t, k[6], 4, 10, some(300))
	seal.Seal(k[6], 4, 10, some(api.MaxBlob+1))
	seal.Open(k[6], want)
	seal.Name(k[6], want)
	if !bytes.Equal(sealed(t, k[5], 3, 9, plain), want) {
		t.Error("a call hangs on those ahead of it")
	}
}

// --- P5.2: what is in a blob

func TestP52Known(t *testing.T) {
	for _, c := range known() {
		b, err := hex.DecodeString(c.want)
		if err != nil {
			t.Fatal(err)
		}
		opens(t, c.key, b, c.kind, c.n, []byte(c.plain))
	}
}

// TestP52Words: the blobs are made by the words of the promise, and not by Seal.
func TestP52Words(t *testing.T) {
	for _, key := range keys() {
		for _, kind := range kinds {
			for _, n := range few {
				for _, size := range []int{0, 1, 64, 65, 150} {
					plain := some(size)
					opens(t, key, blob(key, kind, n, plain), kind, n, plain)
				}
			}
		}
	}
	key := keys()[5]
	for kind := range 256 {
		opens(t, key, blob(key, byte(kind), 2, some(9)), byte(kind), 2, some(9))
	}
	for _, n := range numbers() {
		opens(t, key, blob(key, 2, n, some(66)), 2, n, some(66))
	}
	for _, size := range append(edges, 1000, api.MaxBlob-1, api.MaxBlob) {
		opens(t, key, blob(key, 2, 3, some(size)), 2, 3, some(size))
	}
}

func TestP52Short(t *testing.T) {
	for _, key := range keys() {
		whole := blob(key, 8, 9, nil)
		refuses(t, key, nil, api.ErrShort, "nil")
		for n := range 41 {
			refuses(t, key, whole[:n], api.ErrShort, "the first", n, "bytes of a blob")
			refuses(t, key, whole[41-n:], api.ErrShort, "the last", n, "bytes of a blob")
			refuses(t, key, make([]byte, n), api.ErrShort, n, "noughts")
		}
		opens(t, key, whole, 8, 9, nil)
		refuses(t, key, make([]byte, 41), api.ErrMac, "41 noughts")
	}
}

// TestP52ShortVouched: bytes that are too few are so even where their last 32 are what the key says.
func TestP52ShortVouched(t *testing.T) {
	key := keys()[6]
	for n := 1; n < 9; n++ {
		refuses(t, key, vouched(key, some(n)), api.ErrShort, n, "bytes that are vouched for")
	}
	if _, _, _, err := seal.Open(key, vouched(key, some(9))); err != api.OK {
		t.Error("9 bytes that are vouched for:", err)
	}
}

// TestP52Big: bytes that are too many are so whether or not their last 32 are what the key says.
func TestP52Big(t *testing.T) {
	for _, key := range keys()[4:6] {
		opens(t, key, blob(key, 8, 9, make([]byte, api.MaxBlob)), 8, 9, make([]byte, api.MaxBlob))
		refuses(t, key, make([]byte, api.MaxBlob+41), api.ErrMac, "as many noughts as may be")
		for _, n := range []int{api.MaxBlob + 1, api.MaxBlob + 2, api.MaxBlob + 41, 2 * api.MaxBlob, api.MaxPack} {
			refuses(t, key, make([]byte, n+41), api.ErrBig, n, "and 41 noughts")
			refuses(t, key, blob(key, 8, 9, make([]byte, n)), api.ErrBig, "a blob of", n, "bytes")
		}
	}
}

// TestP52EachBit: a blob that is changed in one bit is none.
func TestP52EachBit(t *testing.T) {
	key := keys()[7]
	for _, plain := range [][]byte{nil, some(1), some(100)} {
		b := sealed(t, key, 3, 0x0807060504030201, plain)
		for i := range len(b) * 8 {
			other := bytes.Clone(b)
			other[i/8] ^= 1 << (i % 8)
			refuses(t, key, other, api.ErrMac, "bit", i, "of a blob of", len(plain), "bytes")
		}
		opens(t, key, b, 3, 0x0807060504030201, plain)
	}
}

// TestP52EachByte: each byte of what is said of a blob must be just that one.
func TestP52EachByte(t *testing.T) {
	key := keys()[5]
	b := sealed(t, key, 3, 4, some(20))
	for i := len(b) - 32; i < len(b); i++ {
		for by := 1; by < 256; by++ {
			other := bytes.Clone(b)
			other[i] += byte(by)
			refuses(t, key, other, api.ErrMac, "byte", i, "and", by)
		}
	}
}

func TestP52WrongKey(t *testing.T) {
	key := keys()[6]
	b := sealed(t, key, 3, 4, some(80))
	for i := range len(key) * 8 {
		other := key
		other[i/8] ^= 1 << (i % 8)
		refuses(t, other, b, api.ErrMac, "bit", i, "of the key")
	}
	for _, other := range keys() {
		if other != key {
			refuses(t, other, b, api.ErrMac, other, "is another key")
		}
	}
	// The keys of the kind aren't the key.
	refuses(t, keyOf(key, "hide", 3), b, api.ErrMac, "the key that hides")
	refuses(t, keyOf(key, "vouch", 3), b, api.ErrMac, "the key that vouches")
}

// TestP52WrongLength: a blob that lost bytes, or got some, is none.
func TestP52WrongLength(t *testing.T) {
	key := keys()[5]
	b := sealed(t, key, 3, 4, some(80))
	for n := 41; n < len(b); n++ {
		refuses(t, key, b[:n], api.ErrMac, "the first", n, "bytes")
		refuses(t, key, b[len(b)-n:], api.ErrMac, "the last", n, "bytes")
	}
	for i := range len(b) + 1 {
		for _, c := range []byte{0, 1, 255} {
			more := append(append(bytes.Clone(b[:i]), c), b[i:]...)
			refuses(t, key, more, api.ErrMac, "a byte", c, "more at", i)
		}
	}
	refuses(t, key, append(bytes.Clone(b), b...), api.ErrMac, "a blob twice")
}

// TestP52Mixed: parts of several blobs of one key make no blob.
func TestP52Mixed(t *testing.T) {
	key := keys()[7]
	from := [][]byte{
		sealed(t, key, 3, 4, some(80)),
		sealed(t, key, 3, 5, some(80)),
		sealed(t, key, 2, 4, some(80)),
		sealed(t, key, 3, 4, some(81)[:80]),
	}
	for i, a := range from {
		for j, b := range from {
			for _, at := range []int{1, 9, 50, len(a) - 32} {
				mixed := append(bytes.Clone(a[:at]), b[at:]...)
				if !bytes.Equal(mixed, a) && !bytes.Equal(mixed, b) {
					refuses(t, key, mixed, api.ErrMac, "blobs", i, "and", j, "at", at)
				}
			}
		}
	}
}

// TestP52OtherKeysVouch: only the key that vouches, of the blob's own kind, may say it, and of all that is ahead.
func TestP52OtherKeysVouch(t *testing.T) {
	key, other := keys()[5], keys()[6]
	front := ahead(key, 3, 4, some(80))
	for i, said := range [][]byte{
		says(key, front),
		says(keyOf(key, "hide", 3), front),
		says(keyOf(key, "name", 0), front),
		says(keyOf(key, "vouch", 0), front),
		says(keyOf(key, "vouch", 2), front),
		says(keyOf(key, "vouch", 3+256), front),
		says(keyOf(other, "vouch", 3), front),
		says(keyOf(key, "vouch", 3), front[1:]),
		says(keyOf(key, "vouch", 3), front[9:]),
		says(keyOf(key, "vouch", 3), front[:9]),
		says(keyOf(key, "vouch", 3), front[:len(front)-1]),
		says(keyOf(key, "vouch", 3), some(80)),
		make([]byte, 32),
	} {
		refuses(t, key, append(bytes.Clone(front), said...), api.ErrMac, "what is said in way", i)
	}
	opens(t, key, append(bytes.Clone(front), says(keyOf(key, "vouch", 3), front)...), 3, 4, some(80))
}

// TestP52Chance: bytes by chance, of all small lengths, are no blobs, and no harm.
func TestP52Chance(t *testing.T) {
	for _, key := range keys() {
		for n := range 300 {
			want := api.ErrMac
			if n < 41 {
				want = api.ErrShort
			}
			refuses(t, key, some(n), want, n, "bytes by chance")
		}
	}
}

func TestP52SameAgain(t *testing.T) {
	k, plain := keys(), some(150)
	b := sealed(t, k[5], 3, 9, plain)
	for range 3 {
		opens(t, k[5], b, 3, 9, plain)
		refuses(t, k[6], b, api.ErrMac, "another key")
		refuses(t, k[5], b[:40], api.ErrShort, "40 bytes")
		sealed(t, k[6], 4, 10, some(300))
		seal.Name(k[6], b)
	}
	opens(t, k[5], b, 3, 9, plain)
}

// --- P5.3: what bytes are known by

func TestP53Known(t *testing.T) {
	for _, c := range []struct {
		key   api.Key
		plain []byte
		want  string
	}{
		{api.Key{}, nil, "c6c932f0f873bed8dd2003c14cbe4679a297dffb36037d75df5a684551ffa20c"},
		{api.Key{}, []byte{0}, "30e452b8e8a80fd53992e81f775577bf47b44f7446de7817cfae3c927d7f20fe"},
		{counting(), []byte("abc"), "b7799ecc395887350f89089d46b49e3898bbad43c1234de8ef68a230ecbe7f78"},
		{counting(), []byte(text), "6aa6080eb7f17b2cb3ba4b63e3da8ed9fad16100a73521bfe93e83a768545f71"},
		{full(), []byte(text), "81396b17e2efe7743e19da9d38e8f7ae2cdc3e44e771d095f79321daae7ebd2b"},
		{counting(), running(api.MaxBlob), "62ba621d7eb84834ccbc08997626dae3716f907a8137739c55c6143e136dc62b"},
		{counting(), running(api.MaxBlob + 1), "886fd0e7c404c3e6ce8348b05b171200f0a405f6ca2263234052b1f55c09c9aa"},
		{counting(), running(api.MaxPack), "e8cc0fba7f042a7fe0be9b8492de9a5bf58b878aaa0f66e873c6d39a196c9457"},
	} {
		id := seal.Name(c.key, c.plain)
		if got := hex.EncodeToString(id[:]); got != c.want {
			t.Errorf("%x of %d bytes: %s, want %s", c.key, len(c.plain), got, c.want)
		}
	}
}

func TestP53Words(t *testing.T) {
	for _, key := range keys() {
		for _, n := range append(edges, 1000) {
			b := some(n)
			if seal.Name(key, b) != api.Id(says(keyOf(key, "name", 0), b)) {
				t.Errorf("%x of %d bytes", key, n)
			}
		}
		if seal.Name(key, nil) != seal.Name(key, []byte{}) {
			t.Errorf("%x of nothing", key)
		}
	}
}

// TestP53Unlike: who hasn't the key can't tell by a name which bytes have it.
func TestP53Unlike(t *testing.T) {
	key, b := keys()[5], some(60)
	seen := map[api.Id]bool{seal.Name(key, b): true}
	for i := range len(key) * 8 {
		other := key
		other[i/8] ^= 1 << (i % 8)
		id := seal.Name(other, b)
		if seen[id] {
			t.Error("bit", i, "of the key")
		}
		seen[id] = true
	}
	for i := range len(b) * 8 {
		other := bytes.Clone(b)
		other[i/8] ^= 1 << (i % 8)
		id := seal.Name(key, other)
		if seen[id] {
			t.Error("bit", i, "of the bytes")
		}
		seen[id] = true
	}
	if seen[sha256.Sum256(b)] || seen[api.Id(says(key, b))] {
		t.Error("others can tell it")
	}
}

func TestP53SameAgain(t *testing.T) {
	k, b := keys(), some(99)
	want := seal.Name(k[5], b)
	seal.Name(k[6], some(98))
	sealed(t, k[6], 3, 4, some(98))
	if seal.Name(k[5], b) != want {
		t.Error("a call hangs on those ahead of it")
	}
}

// --- P5.4: what is sealed is opened as it was, and what is opened is a blob that Seal makes of it

func TestP54OpenedAsItWas(t *testing.T) {
	for _, key := range keys() {
		for _, kind := range kinds {
			for _, n := range few {
				for _, size := range edges {
					plain := some(size)
					opens(t, key, sealed(t, key, kind, n, plain), kind, n, plain)
				}
			}
		}
	}
	key := keys()[5]
	for _, size := range []int{1000, 4096, api.MaxBlob - 1, api.MaxBlob} {
		opens(t, key, sealed(t, key, 1, 2, some(size)), 1, 2, some(size))
	}
	for kind := range 256 {
		opens(t, key, sealed(t, key, byte(kind), 5, nil), byte(kind), 5, nil)
	}
	for _, n := range numbers() {
		opens(t, key, sealed(t, key, 5, n, some(3)), 5, n, some(3))
	}
}

func TestP54OpenedAsItWasChance(t *testing.T) {
	r := rand.New(rand.NewSource(54))
	for range 1000 {
		var key api.Key
		r.Read(key[:])
		kind, n, plain := byte(r.Intn(256)), r.Uint64()>>r.Intn(64), some(r.Intn(2000))
		opens(t, key, sealed(t, key, kind, n, plain), kind, n, plain)
	}
}

// TestP54SealedAgain: whoever vouches for some bytes, if they are opened they are what Seal makes of what is in them.
func TestP54SealedAgain(t *testing.T) {
	r := rand.New(rand.NewSource(45))
	sizes := []int{0, 1, 2, 63, 64, 65, 500, api.MaxBlob}
	for i := range 1000 {
		var key api.Key
		r.Read(key[:])
		size := r.Intn(300)
		if i < len(sizes) {
			size = sizes[i]
		}
		front := make([]byte, 9+size)
		r.Read(front)
		b := vouched(key, front)
		plain, kind, n, err := seal.Open(key, b)
		if err != api.OK {
			t.Fatal(size, "bytes:", err)
		}
		if !bytes.Equal(sealed(t, key, kind, n, plain), b) {
			t.Fatal(size, "bytes are opened, and aren't what Seal makes")
		}
	}
}

// TestP54Within: a blob may be in a blob.
func TestP54Within(t *testing.T) {
	key := keys()[6]
	inner := sealed(t, key, 3, 4, some(50))
	outer := sealed(t, key, 3, 4, inner)
	got, _, _, err := seal.Open(key, outer)
	if err != api.OK || !bytes.Equal(got, inner) {
		t.Fatal("a blob in a blob:", err)
	}
	opens(t, key, got, 3, 4, some(50))
}

// --- what is handed in stays as it was

// TestStays: neither the bytes, nor what stands ahead of them and behind them in their memory, nor a key.
func TestStays(t *testing.T) {
	for _, n := range edges {
		key := keys()[6]
		keyWas := key
		memory := append(some(n+150), sealed(t, key, 3, 4, some(n))...)
		memory = append(memory, some(n+99)...)
		was := bytes.Clone(memory)
		b := memory[n+150 : n+150+n+41]
		seal.Seal(key, 3, 4, memory[70:70+n])
		seal.Seal(key, 3, 4, memory[:n])
		seal.Seal(key, 3, 4, key[:])
		opens(t, key, b, 3, 4, some(n))
		seal.Open(key, memory[:n])
		seal.Open(key, b[:len(b)-1])
		seal.Open(keys()[7], b)
		seal.Open(key, key[:])
		seal.Name(key, memory[:n])
		seal.Name(key, key[:])
		if !bytes.Equal(memory, was) || key != keyWas {
			t.Error(n, "bytes, or the key, are changed")
		}
	}
	big := make([]byte, api.MaxBlob+99)
	seal.Seal(api.Key{}, 3, 4, big)
	seal.Open(api.Key{}, big)
	if !bytes.Equal(big, make([]byte, len(big))) {
		t.Error("bytes that are too many are changed")
	}
}

// TestNewMemorySeal: a blob shares nothing with what is in it, nor with another blob.
func TestNewMemorySeal(t *testing.T) {
	key := keys()[5]
	for _, n := range edges {
		plain := append(make([]byte, 0, n+200), some(n)...)
		want := blob(key, 3, 4, plain)
		got := sealed(t, key, 3, 4, plain)
		clear(plain[:cap(plain)])
		if !bytes.Equal(got, want) {
			t.Fatal(n, "bytes: the blob hangs on the memory of what is in it")
		}
		copy(plain, some(n))
		again := sealed(t, key, 3, 4, plain)
		clear(append(got, 99, 99, 99))
		clear(got)
		if !bytes.Equal(again, want) || !bytes.Equal(plain, some(n)) || !bytes.Equal(plain[n:cap(plain)], make([]byte, cap(plain)-n)) {
			t.Fatal(n, "bytes: the blob's memory is another's too")
		}
	}
}

// TestNewMemoryOpen: what was in a blob shares nothing with the blob, nor with another answer.
func TestNewMemoryOpen(t *testing.T) {
	key := keys()[7]
	for _, n := range edges {
		b := append(make([]byte, 0, n+300), blob(key, 3, 4, some(n))...)
		got, _, _, _ := seal.Open(key, b)
		clear(b[:cap(b)])
		if !bytes.Equal(got, some(n)) {
			t.Fatal(n, "bytes: what was in a blob hangs on the blob's memory")
		}
		copy(b, blob(key, 3, 4, some(n)))
		again, _, _, _ := seal.Open(key, b)
		clear(append(got, 99, 99, 99))
		clear(got)
		if !bytes.Equal(again, some(n)) || !bytes.Equal(b, blob(key, 3, 4, some(n))) || !bytes.Equal(b[len(b):cap(b)], make([]byte, cap(b)-len(b))) {
			t.Fatal(n, "bytes: the memory of what was in a blob is another's too")
		}
	}
}

// TestNotKept: what is done with the key, or an answer, later is nothing to other answers.
func TestNotKept(t *testing.T) {
	key := keys()[5]
	keyWas := key
	b, id := sealed(t, key, 3, 4, some(130)), seal.Name(key, some(130))
	plain, _, _, _ := seal.Open(key, b)
	clear(key[:])
	if !bytes.Equal(b, blob(keyWas, 3, 4, some(130))) || id != api.Id(says(keyOf(keyWas, "name", 0), some(130))) {
		t.Error("an answer hangs on the memory of what was handed in")
	}
	clear(b)
	clear(plain)
	clear(id[:])
	if !bytes.Equal(sealed(t, keyWas, 3, 4, some(130)), blob(keyWas, 3, 4, some(130))) || seal.Name(keyWas, some(130)) == id {
		t.Error("an answer's memory is kept")
	}
}
