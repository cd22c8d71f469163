package cutter_test

import (
	"bytes"
	"crypto/sha256"
	"encoding/hex"
	"math"
	"math/rand"
	"slices"
	"strconv"
	"strings"
	"testing"

	"bailee/api"
	"bailee/cutter"
)

// some are bytes by chance, so many, the same ones in each run.
func some(n int) []byte {
	b := make([]byte, n)
	rand.New(rand.NewSource(int64(n))).Read(b)
	return b
}

// running are bytes by a rule that the other program, too, has them by.
func running(n int) []byte {
	b := make([]byte, n)
	for i := range b {
		b[i] = byte(i * 7 % 251)
	}
	return b
}

// word are bytes by a rule that mixes them, that the other program, too, has them by.
func word(n int) []byte {
	b := make([]byte, n)
	x := 1
	for i := range b {
		x = x * 48271 % (1<<31 - 1)
		b[i] = byte(x >> 8)
	}
	return b
}

func conf(least, most, bits int) cutter.Config {
	return cutter.Config{Least: least, Most: most, Bits: bits}
}

// configs may be; they are ordinary ones, and such at the edges.
var configs = []cutter.Config{
	conf(1, 1, 1), conf(1, 65536, 1), conf(1, 65536, 24), conf(65536, 65536, 1), conf(65536, 65536, 24),
	conf(2, 2, 1), conf(1, 2, 1), conf(3, 5, 2), conf(4, 32, 4), conf(16, 100, 6), conf(64, 512, 7), conf(63, 65, 24), conf(200, 4000, 9),
}

// texts are bytes of each kind: by chance, by rules, of one byte, and of lengths about what pieces may have.
func texts() [][]byte {
	l := [][]byte{nil, {}, {0}, {255}, running(600), word(3000), make([]byte, 500), bytes.Repeat([]byte{255}, 500), bytes.Repeat([]byte("ab"), 300)}
	for n := 1; n <= 70; n++ {
		l = append(l, some(n))
	}
	return append(l, some(2000), some(65535), some(65536), some(65537), some(140000))
}

// --- the promise's words, worked out in another way

// sumBehind is the sum of a piece's bytes: the last 64 bytes' weights, each doubled for each byte behind it; what is ahead of them fell out above.
func sumBehind(piece []byte) uint64 {
	sum, twice := uint64(0), uint64(1)
	for i := len(piece) - 1; i >= max(0, len(piece)-64); i-- {
		w := uint64(11400714819323198485)
		w += w * uint64(piece[i])
		sum += w * twice
		twice += twice
	}
	return sum
}

// endsHere tells whether a piece that has come so far ends there, though bytes go on.
func endsHere(piece []byte, c cutter.Config) bool {
	if len(piece) == c.Most {
		return true
	}
	limit := uint64(math.MaxUint64)
	for range c.Bits {
		limit /= 2
	}
	return len(piece) >= c.Least && sumBehind(piece) <= limit
}

func endsOf(b []byte, c cutter.Config) []int {
	var ends []int
	from := 0
	for to := 1; to <= len(b); to++ {
		if to == len(b) || endsHere(b[from:to], c) {
			ends = append(ends, to)
			from = to
		}
	}
	return ends
}

// --- Check

func TestP71CheckTakes(t *testing.T) {
	for _, c := range configs {
		if err := cutter.Check(c); err != api.OK {
			t.Error(c, err)
		}
	}
	for bits := 1; bits <= 24; bits++ {
		if err := cutter.Check(conf(1, 65536, bits)); err != api.OK {
			t.Error(bits, err)
		}
	}
}

// wrong are configs that may not be.
var wrong = []cutter.Config{
	{}, conf(0, 1, 1), conf(-1, 1, 1), conf(math.MinInt, 1, 1), conf(0, 0, 1),
	conf(2, 1, 1), conf(1, 0, 1), conf(1, -1, 1), conf(65536, 65535, 1), conf(100, 99, 8), conf(-2, -1, 3), conf(math.MaxInt, math.MinInt, 1),
	conf(1, 65537, 1), conf(65537, 65537, 1), conf(1, math.MaxInt, 1), conf(math.MaxInt, math.MaxInt, 1), conf(1, math.MinInt, 1),
	conf(1, 2, 0), conf(1, 2, -1), conf(1, 2, 25), conf(1, 2, 63), conf(1, 2, 64), conf(1, 2, 65), conf(1, 2, math.MaxInt), conf(1, 2, math.MinInt),
}

func TestP71CheckRefuses(t *testing.T) {
	for _, c := range wrong {
		if err := cutter.Check(c); err != api.ErrArg {
			t.Error(c, err)
		}
	}
}

func TestP71EndsRefuses(t *testing.T) {
	for _, c := range wrong {
		for _, b := range [][]byte{nil, {1}, some(200)} {
			if ends, err := cutter.Ends(b, c); err != api.ErrArg || len(ends) != 0 {
				t.Error(c, len(b), ends, err)
			}
		}
	}
}

func TestP71PiecesRefuses(t *testing.T) {
	for _, c := range wrong {
		for _, b := range [][]byte{nil, {1}, some(200)} {
			if l, err := cutter.Pieces(b, c); err != api.ErrArg || len(l) != 0 {
				t.Error(c, len(b), len(l), err)
			}
		}
	}
}

// --- Ends

func mustEnds(t *testing.T, b []byte, c cutter.Config) []int {
	t.Helper()
	ends, err := cutter.Ends(b, c)
	if err != api.OK {
		t.Fatal(len(b), c, err)
	}
	return ends
}

func TestP71EndsExample(t *testing.T) {
	for bits := 1; bits <= 24; bits++ {
		if ends := mustEnds(t, some(5), conf(2, 2, bits)); !slices.Equal(ends, []int{2, 4, 5}) {
			t.Error(bits, ends)
		}
	}
}

func TestP71EndsOfNothing(t *testing.T) {
	for _, c := range configs {
		for _, b := range [][]byte{nil, {}} {
			if ends := mustEnds(t, b, c); len(ends) != 0 {
				t.Error(c, ends)
			}
		}
	}
}

// What another program answers.
func TestP71EndsKnown(t *testing.T) {
	known := []struct {
		b    []byte
		c    cutter.Config
		ends []int
	}{
		{running(28), conf(1, 65536, 1), []int{2, 3, 5, 6, 8, 9, 12, 15, 19, 22, 27, 28}},
		{running(600), conf(4, 32, 4), []int{24, 31, 59, 69, 101, 113, 133, 137, 151, 164, 184, 199, 209, 232, 246, 278, 310, 320, 352, 364, 384, 388, 402, 415, 435, 450, 460, 483, 497, 529, 561, 571, 600}},
		{running(600), conf(16, 100, 6), []int{56, 78, 178, 278, 323, 423, 523, 600}},
		{running(600), conf(1, 65536, 24), []int{600}},
		{make([]byte, 200), conf(1, 65536, 3), []int{11, 22, 33, 44, 55, 66, 77, 88, 99, 110, 121, 132, 143, 154, 165, 176, 187, 198, 200}},
		{make([]byte, 200), conf(4, 32, 4), []int{32, 64, 96, 128, 160, 192, 200}},
		{make([]byte, 200), conf(16, 100, 6), []int{46, 92, 138, 184, 200}},
		{bytes.Repeat([]byte{255}, 200), conf(1, 65536, 3), []int{32, 64, 96, 128, 160, 192, 200}},
		{bytes.Repeat([]byte{255}, 200), conf(16, 100, 6), []int{100, 200}},
		{word(400), conf(4, 32, 4), []int{22, 31, 62, 77, 101, 125, 137, 142, 169, 174, 188, 196, 200, 209, 222, 253, 262, 270, 286, 290, 318, 322, 326, 334, 349, 353, 363, 374, 381, 400}},
		{word(400), conf(16, 100, 6), []int{28, 57, 157, 210, 295, 315, 340, 377, 400}},
	}
	for _, k := range known {
		if ends := mustEnds(t, k.b, k.c); !slices.Equal(ends, k.ends) {
			t.Error(len(k.b), k.c, ends)
		}
	}
}

// What another program answers, told by the digest of the ends as a text.
func TestP71EndsKnownLong(t *testing.T) {
	known := []struct {
		c    cutter.Config
		many int
		said string
	}{
		{conf(1, 65536, 1), 99888, "b210703f6f87b1ed372ebdfe5947750ccddac3499adf027a9ad42b0f2abdf870"},
		{conf(1, 65536, 8), 767, "cfd25563b90bdc0c4cae8cc0780b6574a263f4ebeb52da7ff2b3d9f5696d5c3f"},
		{conf(64, 4096, 10), 192, "d341db0d0cec9d8e4719ec5e62169bc11c367548c190514c45e690f8a7f76747"},
		{conf(512, 65536, 13), 25, "fb7285ad8ce7921341436352df3dc98f8a7eb498f27a6def8ac7c4f38bd981ad"},
		{conf(1, 65536, 16), 4, "c5a8159951e09c0be9695cbedb2b05e8b28b6b14e708a110dc3101a0c610c079"},
		{conf(65536, 65536, 24), 4, "c18dc6d6d888d043d68929773ed2038375c6dc9e9729c51f3ef995f1e476c536"},
	}
	for _, k := range known {
		var told []string
		for _, end := range mustEnds(t, word(200000), k.c) {
			told = append(told, strconv.Itoa(end))
		}
		said := sha256.Sum256([]byte(strings.Join(told, ",")))
		if len(told) != k.many || hex.EncodeToString(said[:]) != k.said {
			t.Error(k.c, len(told))
		}
	}
}

func TestP71EndsByItsWords(t *testing.T) {
	for _, b := range texts() {
		for _, c := range configs {
			if ends := mustEnds(t, b, c); !slices.Equal(ends, endsOf(b, c)) {
				t.Error(len(b), c)
			}
		}
	}
}

func TestP71EndsByItsWordsAtSmallSizes(t *testing.T) {
	b := some(150)
	for least := 1; least <= 9; least++ {
		for most := least; most <= 12; most++ {
			for bits := 1; bits <= 5; bits++ {
				c := conf(least, most, bits)
				if ends := mustEnds(t, b, c); !slices.Equal(ends, endsOf(b, c)) {
					t.Error(c, ends)
				}
			}
		}
	}
}

// rareAt are rows behind whose last byte just so many of the sum's highest bits are 0, and behind none ahead of it as many as twelve.
var rareAt = []struct {
	bits int
	row  [24]byte
}{
	{12, [24]byte{200, 253, 87, 174, 49, 76, 190, 161, 51, 32, 43, 231, 146, 71, 249, 122, 179, 26, 77, 89, 23, 213, 45, 72}},
	{13, [24]byte{194, 42, 131, 185, 100, 124, 254, 98, 23, 220, 76, 205, 71, 228, 44, 177, 111, 160, 189, 202, 18, 65, 84, 134}},
	{16, [24]byte{78, 113, 38, 14, 178, 24, 65, 163, 44, 174, 215, 113, 219, 172, 223, 110, 112, 10, 250, 83, 80, 197, 186, 12}},
	{22, [24]byte{58, 20, 81, 189, 61, 57, 149, 48, 146, 248, 205, 65, 89, 138, 136, 65, 227, 7, 228, 48, 96, 91, 42, 26}},
	{23, [24]byte{51, 150, 253, 116, 80, 42, 13, 7, 223, 129, 9, 90, 233, 25, 15, 246, 28, 5, 222, 48, 1, 35, 130, 184}},
	{24, [24]byte{252, 70, 162, 139, 205, 238, 152, 240, 113, 61, 25, 202, 240, 188, 150, 86, 75, 115, 250, 108, 32, 160, 251, 233}},
	{25, [24]byte{201, 220, 139, 148, 121, 37, 45, 31, 48, 217, 172, 140, 94, 110, 123, 157, 130, 204, 161, 24, 255, 221, 56, 76}},
}

func TestP71EndsByRareSums(t *testing.T) {
	for _, k := range rareAt {
		b := append(k.row[:], 0)
		for bits := 12; bits <= 24; bits++ {
			want := []int{25}
			if bits <= k.bits {
				want = []int{24, 25}
			}
			if ends := mustEnds(t, b, conf(1, 65536, bits)); !slices.Equal(ends, want) {
				t.Error(k.bits, bits, ends)
			}
		}
	}
}

func TestP71EndsNotBelowLeast(t *testing.T) {
	b := append(rareAt[5].row[:], 0, 0)
	for least := 1; least <= 26; least++ {
		want := []int{24, 26}
		if least > 24 {
			want = []int{26}
		}
		if ends := mustEnds(t, b, conf(least, 100, 24)); !slices.Equal(ends, want) {
			t.Error(least, ends)
		}
	}
}

func TestP71EndsAtMost(t *testing.T) {
	b := append(rareAt[5].row[:], 0)
	for most := 12; most <= 30; most++ {
		// A sum begins anew with each piece: what was rare behind the whole row isn't behind a part of it.
		want := []int{most, 25}
		switch {
		case most == 12:
			want = []int{12, 24, 25}
		case most >= 24:
			want = []int{24, 25}
		}
		if ends := mustEnds(t, b, conf(1, most, 24)); !slices.Equal(ends, want) {
			t.Error(most, ends)
		}
	}
}

func TestP71EndsWhereBytesEnd(t *testing.T) {
	c := conf(10, 10, 24)
	for n := 1; n <= 45; n++ {
		var want []int
		for at := 10; at < n; at += 10 {
			want = append(want, at)
		}
		if ends := mustEnds(t, some(n), c); !slices.Equal(ends, append(want, n)) {
			t.Error(n, ends)
		}
	}
}

// --- Pieces

func TestP71PiecesAreBetweenEnds(t *testing.T) {
	for _, b := range texts() {
		for _, c := range configs {
			pieces, err := cutter.Pieces(b, c)
			ends := endsOf(b, c)
			if err != api.OK || len(pieces) != len(ends) {
				t.Fatal(len(b), c, err, len(pieces))
			}
			from := 0
			for k, end := range ends {
				if !bytes.Equal(pieces[k], b[from:end]) {
					t.Fatal(len(b), c, k)
				}
				from = end
			}
		}
	}
}

func TestP71PiecesOfNothing(t *testing.T) {
	for _, b := range [][]byte{nil, {}} {
		if l, err := cutter.Pieces(b, conf(1, 10, 3)); err != api.OK || len(l) != 0 {
			t.Error(l, err)
		}
	}
}

func TestP71PiecesInNewMemory(t *testing.T) {
	b := some(1000)
	was := bytes.Clone(b)
	pieces, _ := cutter.Pieces(b, conf(3, 40, 3))
	copies, _ := cutter.Pieces(b, conf(3, 40, 3))
	for k := range pieces {
		for i := range pieces[k] {
			pieces[k][i]++
		}
		_ = append(pieces[k], 1, 2, 3)
		pieces[k] = nil
		for j := k + 1; j < len(pieces); j++ {
			if !bytes.Equal(pieces[j], copies[j]) {
				t.Fatal("a piece reaches another one", k, j)
			}
		}
	}
	if !bytes.Equal(b, was) || !bytes.Equal(bytes.Join(copies, nil), was) {
		t.Error("a piece reaches what was handed in, or another answer")
	}
}

func TestP71EndsInNewMemory(t *testing.T) {
	b := some(300)
	ends := mustEnds(t, b, conf(1, 9, 2))
	clear(ends[:cap(ends)])
	if again := mustEnds(t, b, conf(1, 9, 2)); !slices.Equal(again, endsOf(b, conf(1, 9, 2))) {
		t.Error(again)
	}
}

// --- what follows

func TestP72PiecesAreAll(t *testing.T) {
	for _, b := range texts() {
		for _, c := range configs {
			pieces, _ := cutter.Pieces(b, c)
			if !bytes.Equal(bytes.Join(pieces, nil), b) {
				t.Fatal(len(b), c)
			}
			for k, p := range pieces {
				if len(p) > c.Most || len(p) == 0 || len(p) < c.Least && k != len(pieces)-1 {
					t.Fatal(len(b), c, k, len(p))
				}
			}
		}
	}
}

// behind are the ends behind a place, from there on.
func behind(ends []int, at int) []int {
	var l []int
	for _, end := range ends {
		if end > at {
			l = append(l, end-at)
		}
	}
	return l
}

func TestP72AlikeBehindOneCut(t *testing.T) {
	tail := some(700)
	for _, c := range []cutter.Config{conf(1, 65536, 3), conf(4, 32, 4), conf(16, 100, 6), conf(2, 2, 1)} {
		for n := 1; n <= 60; n++ {
			text := some(n + 500)
			for _, at := range mustEnds(t, text, c) {
				if at == len(text) {
					continue // cut only as it ends
				}
				joined := append(text[:at:at], tail...)
				ends := mustEnds(t, joined, c)
				if !slices.Contains(ends, at) || !slices.Equal(behind(ends, at), mustEnds(t, tail, c)) {
					t.Fatal(c, n, at)
				}
			}
		}
	}
}

// Bytes that are put in front move the cuts of what is behind, but soon change none.
func TestP72AlikeBehindWhatIsPutInFront(t *testing.T) {
	c := conf(16, 1024, 6)
	text := some(20000)
	ends := mustEnds(t, text, c)
	for n := 1; n <= 30; n++ {
		moved := mustEnds(t, append(some(n), text...), c)
		for _, end := range ends {
			if at := end + n; end < len(text) && slices.Contains(moved, at) {
				if end > 5000 || !slices.Equal(behind(moved, at), behind(ends, end)) {
					t.Error(n, end)
				}
				break
			}
		}
		if !slices.Contains(moved, ends[len(ends)-2]+n) {
			t.Error(n, "never cut at one place again")
		}
	}
}

// --- what is handed in

func TestStays(t *testing.T) {
	for _, b := range texts() {
		was := bytes.Clone(b)
		for _, c := range append(configs[:len(configs):len(configs)], wrong...) {
			cutter.Ends(b, c)
			cutter.Pieces(b, c)
			if !bytes.Equal(b, was) {
				t.Fatal(len(b), c)
			}
		}
	}
}

func TestNotKept(t *testing.T) {
	b := some(400)
	c := conf(3, 40, 3)
	pieces, _ := cutter.Pieces(b, c)
	ends := mustEnds(t, b, c)
	was := bytes.Clone(b)
	clear(b)
	if !bytes.Equal(bytes.Join(pieces, nil), was) || !slices.Equal(ends, endsOf(was, c)) {
		t.Error("what was handed in was kept")
	}
}

// The same call has the same answer, whatever room stands behind the bytes.
func TestSameAnswers(t *testing.T) {
	b := some(500)
	c := conf(3, 40, 3)
	want := mustEnds(t, b, c)
	roomy := append(make([]byte, 0, 5000), b...)
	for range 3 {
		if !slices.Equal(mustEnds(t, roomy, c), want) {
			t.Error("another answer")
		}
	}
}
