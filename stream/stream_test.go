package stream_test

import (
	"bytes"
	"crypto/sha256"
	"encoding/binary"
	"encoding/hex"
	"math"
	"math/rand"
	"testing"

	"bailee/api"
	"bailee/stream"
)

type nonce = [12]byte

// edges are lengths round those at which the bytes take a part more.
var edges = []int{0, 1, 2, 3, 4, 31, 32, 33, 63, 64, 65, 66, 127, 128, 129, 191, 192, 193, 255, 256, 257, 300}

// some are bytes by chance, so many, the same ones in each run.
func some(n int) []byte {
	b := make([]byte, n)
	rand.New(rand.NewSource(int64(n))).Read(b)
	return b
}

// unhex are the bytes of a text.
func unhex(t *testing.T, text string) []byte {
	t.Helper()
	b, err := hex.DecodeString(text)
	if err != nil {
		t.Fatal(err)
	}
	return b
}

// counting is a key of 0, 1, 2 and so on.
func counting() api.Key {
	var k api.Key
	for i := range k {
		k[i] = byte(i)
	}
	return k
}

// keys are some at the edges, and some by chance.
func keys() []api.Key {
	l := []api.Key{
		{},
		{0: 1},
		{api.Digest - 1: 128},
		counting(),
		api.Key(bytes.Repeat([]byte{255}, api.Digest)),
	}
	r := rand.New(rand.NewSource(4))
	for range 4 {
		var k api.Key
		r.Read(k[:])
		l = append(l, k)
	}
	return l
}

// nonces are some at the edges, those of a number of eight bytes with noughts behind it, and some by chance.
func nonces() []nonce {
	l := []nonce{
		{},
		{0: 1},
		{11: 128},
		{3: 9, 7: 0x4a},
		{1, 2, 3, 4, 5, 6, 7, 8},
		{255, 255, 255, 255, 255, 255, 255, 255, 255, 255, 255, 255},
	}
	r := rand.New(rand.NewSource(12))
	for range 3 {
		var n nonce
		r.Read(n[:])
		l = append(l, n)
	}
	return l
}

// numbers are edges of numbers of 32 bits: each byte of its own, all of them, none.
func numbers() []uint32 {
	return []uint32{0, 1, 2, 255, 256, 65535, 65536, 1<<24 - 1, 1 << 24, 0x01020304, math.MaxInt32, 1 << 31, math.MaxUint32 - 1, math.MaxUint32}
}

// turned is x turned up, by what numbers do and not by their bits.
func turned(x uint64, by uint) uint64 {
	y := x * (1 << by)
	return y%(1<<32) + y/(1<<32)
}

// quarter is the word's, with sums by 2^32.
func quarter(s []uint64, a, b, c, d int) {
	s[a] = (s[a] + s[b]) % (1 << 32)
	s[d] = turned(s[d]^s[a], 16)
	s[c] = (s[c] + s[d]) % (1 << 32)
	s[b] = turned(s[b]^s[c], 12)
	s[a] = (s[a] + s[b]) % (1 << 32)
	s[d] = turned(s[d]^s[a], 8)
	s[c] = (s[c] + s[d]) % (1 << 32)
	s[b] = turned(s[b]^s[c], 7)
}

// words is a part by the promise's words.
func words(key api.Key, of nonce, n uint32) [64]byte {
	first := []uint64{1634760805, 857760878, 2036477234, 1797285236}
	for i := range 8 {
		first = append(first, uint64(binary.LittleEndian.Uint32(key[4*i:])))
	}
	first = append(first, uint64(n))
	for i := range 3 {
		first = append(first, uint64(binary.LittleEndian.Uint32(of[4*i:])))
	}
	s := append([]uint64{}, first...)
	for i := 0; i < 10; i++ {
		quarter(s, 0, 4, 8, 12)
		quarter(s, 1, 5, 9, 13)
		quarter(s, 2, 6, 10, 14)
		quarter(s, 3, 7, 11, 15)
		quarter(s, 0, 5, 10, 15)
		quarter(s, 1, 6, 11, 12)
		quarter(s, 2, 7, 8, 13)
		quarter(s, 3, 4, 9, 14)
	}
	var out []byte
	for i := range s {
		out = binary.LittleEndian.AppendUint32(out, uint32(s[i]+first[i]))
	}
	return [64]byte(out)
}

// laid are bytes with a stream laid over them, by the promise's words.
func laid(key api.Key, of nonce, b []byte) []byte {
	out := make([]byte, len(b))
	var part [64]byte
	for i := range b {
		if i%64 == 0 {
			part = words(key, of, uint32(i/64))
		}
		out[i] = b[i] ^ part[i%64]
	}
	return out
}

// --- P4.1: a part of the stream

func TestP41Published(t *testing.T) {
	for _, c := range []struct {
		key  api.Key
		of   nonce
		n    uint32
		want string
	}{
		{counting(), nonce{3: 9, 7: 0x4a}, 1, "10f1e7e4d13b5915500fdd1fa32071c4c7d1f4c733c068030422aa9ac3d46c4ed2826446079faa0914c2d705d98b02a2b5129cd1de164eb9cbd083e8a2503c4e"},
		{api.Key{}, nonce{}, 0, "76b8e0ada0f13d90405d6ae55386bd28bdd219b8a08ded1aa836efcc8b770dc7da41597c5157488d7724e03fb8d84a376a43b8f41518a11cc387b669b2ee6586"},
		{api.Key{}, nonce{}, 1, "9f07e7be5551387a98ba977c732d080dcb0f29a048e3656912c6533e32ee7aed29b721769ce64e43d57133b074d839d531ed1f28510afb45ace10a1f4b794d6f"},
		{api.Key{31: 1}, nonce{}, 1, "3aeb5224ecf849929b9d828db1ced4dd832025e8018b8160b82284f3c949aa5a8eca00bbb4a73bdad192b5c42f73f2fd4e273644c8b36125a64addeb006c13a0"},
		{api.Key{1: 255}, nonce{}, 2, "72d54dfbf12ec44b362692df94137f328fea8da73990265ec1bbbea1ae9af0ca13b25aa26cb4a648cb9b9d1be65b2c0924a66c54d545ec1b7374f4872e99f096"},
		{api.Key{}, nonce{11: 2}, 0, "c2c64d378cd536374ae204b9ef933fcd1a8b2288b3dfa49672ab765b54ee27c78a970e0e955c14f3a88e741b97c286f75f8fc299e8148362fa198a39531bed6d"},
		{counting(), nonce{1, 2, 3, 4, 5, 6, 7, 8, 9, 10, 11, 12}, 0x01020304, "66f9a04b2b808dc2f97571e04aa7beb74b36de19a741fbb360abdbdb938a874d4dac73fad6b03fd3bc24c1d99b5a149dcb62654dd6a4e704a013e6803f1a3f5b"},
		{counting(), nonce{1, 2, 3, 4, 5, 6, 7, 8, 9, 10, 11, 12}, math.MaxUint32, "c4e9bc95855bfc7f5456e79b23564422a662e195208fc8a7d24bd6c35a366573688febc54eade68bc3d3e3529dcec58ac73440107ff9021defca771ad3825c3d"},
	} {
		part := stream.Part(c.key, c.of, c.n)
		if got := hex.EncodeToString(part[:]); got != c.want {
			t.Errorf("%x, %x, %d: %s, want %s", c.key, c.of, c.n, got, c.want)
		}
	}
}

// TestP41Words is the promise, word by word.
func TestP41Words(t *testing.T) {
	for _, key := range keys() {
		for _, of := range nonces() {
			for _, n := range numbers() {
				if stream.Part(key, of, n) != words(key, of, n) {
					t.Errorf("%x, %x, %d", key, of, n)
				}
			}
		}
	}
}

func TestP41Chance(t *testing.T) {
	r := rand.New(rand.NewSource(1))
	for range 3000 {
		var key api.Key
		var of nonce
		r.Read(key[:])
		r.Read(of[:])
		n := r.Uint32() >> r.Intn(32)
		if stream.Part(key, of, n) != words(key, of, n) {
			t.Fatalf("%x, %x, %d", key, of, n)
		}
	}
}

// TestP41EachBitCounts: each bit of what is handed in makes a part of its own.
func TestP41EachBitCounts(t *testing.T) {
	key, of, n := keys()[6], nonces()[7], uint32(5)
	seen := map[[64]byte]bool{stream.Part(key, of, n): true}
	ask := func(what string, i int, key api.Key, of nonce, n uint32) {
		part := stream.Part(key, of, n)
		if seen[part] || part != words(key, of, n) {
			t.Error("bit", i, "of the", what)
		}
		seen[part] = true
	}
	for i := range len(key) * 8 {
		other := key
		other[i/8] ^= 1 << (i % 8)
		ask("key", i, other, of, n)
	}
	for i := range len(of) * 8 {
		other := of
		other[i/8] ^= 1 << (i % 8)
		ask("nonce", i, key, other, n)
	}
	for i := range 32 {
		ask("number", i, key, of, n^1<<i)
	}
}

func TestP41SameAgain(t *testing.T) {
	k, l := keys(), nonces()
	want := stream.Part(k[5], l[6], 7)
	stream.Part(k[6], l[7], 8)
	stream.Over(k[7], l[8], some(500))
	if stream.Part(k[5], l[6], 7) != want {
		t.Error("a call hangs on those ahead of it")
	}
}

// --- P4.2: bytes with the stream laid over them

// TestP42Published: it is known with the part 1 at its front, so there are 64 bytes ahead of the text.
func TestP42Published(t *testing.T) {
	text := "Ladies and Gentlemen of the class of '99: If I could offer you only one tip for the future, sunscreen would be it."
	want := unhex(t, "6e2e359a2568f98041ba0728dd0d6981e97e7aec1d4360c20a27afccfd9fae0bf91b65c5524733ab8f593dabcd62b3571639d624e65152ab8f530c359f0861d807ca0dbf500d6a6156a38e088a22b65e52bc514d16ccf806818ce91ab77937365af90bbf74a35be6b40b8eedf2785e42874d")
	got := stream.Over(counting(), nonce{7: 0x4a}, append(make([]byte, 64), text...))
	if len(got) != 64+len(text) || !bytes.Equal(got[64:], want) {
		t.Errorf("%x", got)
	}
}

func TestP42PublishedFromPart0(t *testing.T) {
	text := "Ladies and Gentlemen of the class of '99: If I could offer you only one tip for the future, sunscreen would be it."
	want := unhex(t, "e3647a29ded31528ef56bac70f7a7ac3b735c7444da42d99823ef9938c8ebfdcf05bb71a822c62981aa1ea608f47933f2ed755b62d9312ae72037674f3e93e244c2328d32f75bcc15bb7574fde0c6fcdf87b7aa25b5972970c2ae6cced86a10be9496fc61c407dfdc01510ed8f4eb35d0d62")
	if got := stream.Over(counting(), nonce{7: 0x4a}, []byte(text)); !bytes.Equal(got, want) {
		t.Errorf("%x", got)
	}
}

// TestP42Long: the parts' numbers go above a byte, and above two; what is wanted are the digests that another program of this stream makes.
func TestP42Long(t *testing.T) {
	of := nonce{1, 2, 3, 4, 5, 6, 7, 8, 9, 10, 11, 12}
	for n, want := range map[int]string{
		1000:               "d96f029aecdd14f2936cca243682ece2adaed182dc38bf22ada98654894ed7ef",
		api.MaxBlob:        "e689096392b7751de5d5ebdd79bec091cae3e96328a7613e2823e85830c995ae",
		api.MaxBlob + 41:   "8b5029ba226b3af2e6d6a7202abcfe49401b8ab9b8970e990d83ca9718c0a017",
		api.MaxPack:        "d4f23d768899637da680ae5aeed1aba24a122d7c2448dea4ff19aebf4b75b7a0",
		65536 * 64:         "008518b6726ded60583ba10e078744d656459521f5b4e08ba60692b3ff2113f3",
		65536*64 + 64 + 65: "75ad902c68314eb91d6b4d5ebb2b10078f48f0d678b6ca265795fba469b484d9",
	} {
		sum := sha256.Sum256(stream.Over(counting(), of, make([]byte, n)))
		if got := hex.EncodeToString(sum[:]); got != want {
			t.Error(n, "bytes:", got, "want", want)
		}
	}
}

func TestP42Nothing(t *testing.T) {
	for _, key := range keys() {
		for _, of := range nonces() {
			for i, b := range [][]byte{nil, {}, some(70)[:0], make([]byte, 0, 100)} {
				if got := stream.Over(key, of, b); len(got) != 0 {
					t.Error("of nothing,", i, "as told:", got)
				}
			}
		}
	}
}

func TestP42Lengths(t *testing.T) {
	for _, key := range keys() {
		for _, of := range nonces() {
			for _, n := range edges {
				b := some(n)
				if !bytes.Equal(stream.Over(key, of, b), laid(key, of, b)) {
					t.Errorf("%x, %x: %d bytes", key, of, n)
				}
			}
		}
	}
	for n := range 700 {
		b := some(n)
		if !bytes.Equal(stream.Over(keys()[8], nonces()[8], b), laid(keys()[8], nonces()[8], b)) {
			t.Error(n, "bytes")
		}
	}
}

// TestP42Parts: what is laid over noughts are the parts 0, 1 and so on.
func TestP42Parts(t *testing.T) {
	key, of := keys()[5], nonces()[6]
	got := stream.Over(key, of, make([]byte, 300*64+7))
	for n := range 301 {
		part := stream.Part(key, of, uint32(n))
		if want := part[:min(64, len(got)-n*64)]; !bytes.Equal(got[n*64:n*64+len(want)], want) {
			t.Fatal("part", n)
		}
	}
}

// TestP42EachPlace: a byte hangs on what stands at its place, and on nothing else of the bytes.
func TestP42EachPlace(t *testing.T) {
	key, of, b := keys()[7], nonces()[4], some(200)
	whole := stream.Over(key, of, b)
	for i := range b {
		if got := stream.Over(key, of, b[:i]); !bytes.Equal(got, whole[:i]) {
			t.Error("the first", i, "bytes hang on those behind them")
		}
		for _, by := range []byte{1, 128, 255} {
			other := bytes.Clone(b)
			other[i] ^= by
			got := stream.Over(key, of, other)
			got[i] ^= by
			if !bytes.Equal(got, whole) {
				t.Error("byte", i, "xor", by)
			}
		}
	}
}

func TestP42SameAgain(t *testing.T) {
	k, l := keys(), nonces()
	b := some(150)
	want := stream.Over(k[5], l[6], b)
	stream.Over(k[6], l[7], some(1000))
	stream.Part(k[6], l[7], 9)
	if !bytes.Equal(stream.Over(k[5], l[6], b), want) {
		t.Error("a call hangs on those ahead of it")
	}
}

// --- P4.3: laid over twice bytes are as they were

func TestP43Twice(t *testing.T) {
	for _, key := range keys() {
		for _, of := range nonces() {
			for _, n := range append(edges, 5000) {
				b := some(n)
				once := stream.Over(key, of, b)
				if !bytes.Equal(stream.Over(key, of, once), b) {
					t.Errorf("%x, %x: %d bytes", key, of, n)
				}
				if n > 30 && bytes.Equal(once, b) {
					t.Errorf("%x, %x: %d bytes are laid over with nothing", key, of, n)
				}
			}
		}
	}
	b := some(api.MaxPack)
	key, of := keys()[5], nonces()[8]
	if !bytes.Equal(stream.Over(key, of, stream.Over(key, of, b)), b) {
		t.Error("a pack")
	}
}

// TestP43Wrong: by a key or a nonce that is unlike in one bit they aren't.
func TestP43Wrong(t *testing.T) {
	key, of, b := keys()[8], nonces()[7], some(100)
	once := stream.Over(key, of, b)
	for i := range len(key) * 8 {
		other := key
		other[i/8] ^= 1 << (i % 8)
		if bytes.Equal(stream.Over(other, of, once), b) {
			t.Error("bit", i, "of the key")
		}
	}
	for i := range len(of) * 8 {
		other := of
		other[i/8] ^= 1 << (i % 8)
		if bytes.Equal(stream.Over(key, other, once), b) {
			t.Error("bit", i, "of the nonce")
		}
	}
}

// --- what is handed in stays as it was

// TestStays: neither the bytes, nor what stands ahead of them and behind them in their memory, nor a key, nor a nonce.
func TestStays(t *testing.T) {
	for _, n := range edges {
		memory := some(n + 150)
		was := bytes.Clone(memory)
		key, of := keys()[6], nonces()[6]
		keyWas, ofWas := key, of
		stream.Over(key, of, memory[70:70+n])
		stream.Over(key, of, memory[:n])
		stream.Over(key, of, key[:])
		stream.Over(key, of, of[:5])
		stream.Part(key, of, 3)
		if !bytes.Equal(memory, was) || key != keyWas || of != ofWas {
			t.Error(n, "bytes, or the key, or the nonce, are changed")
		}
	}
}

// TestP42NewMemory: an answer shares nothing with what was handed in, nor with another answer.
func TestP42NewMemory(t *testing.T) {
	key, of := keys()[7], nonces()[7]
	for _, n := range edges {
		b := append(make([]byte, 0, n+200), some(n)...)
		want := laid(key, of, b)
		got := stream.Over(key, of, b)
		clear(b[:cap(b)])
		if !bytes.Equal(got, want) {
			t.Fatal(n, "bytes: the answer hangs on the memory of what was handed in")
		}
		copy(b, some(n))
		again := stream.Over(key, of, b)
		clear(append(got, 99, 99, 99))
		clear(got)
		if !bytes.Equal(again, want) || !bytes.Equal(b, some(n)) || !bytes.Equal(b[n:cap(b)], make([]byte, cap(b)-n)) {
			t.Fatal(n, "bytes: the answer's memory is another's too")
		}
	}
}

// TestNotKept: what is done with the key, the nonce or an answer later is nothing to other answers.
func TestNotKept(t *testing.T) {
	key, of := keys()[5], nonces()[8]
	keyWas, ofWas := key, of
	part, over := stream.Part(key, of, 2), stream.Over(key, of, some(130))
	clear(key[:])
	clear(of[:])
	if part != words(keyWas, ofWas, 2) || !bytes.Equal(over, laid(keyWas, ofWas, some(130))) {
		t.Error("an answer hangs on the memory of what was handed in")
	}
	clear(part[:])
	clear(over)
	if stream.Part(keyWas, ofWas, 2) != words(keyWas, ofWas, 2) || !bytes.Equal(stream.Over(keyWas, ofWas, some(130)), laid(keyWas, ofWas, some(130))) {
		t.Error("an answer's memory is kept")
	}
}
