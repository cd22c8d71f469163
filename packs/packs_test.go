package packs_test

import (
	"bytes"
	"crypto/sha256"
	"encoding/binary"
	"math"
	"math/rand"
	"slices"
	"testing"

	"bailee/api"
	"bailee/packs"
	"bailee/proof"
	"bailee/seal"
)

// Limits, as the words tell them.
const (
	many    = 1024
	least   = 41
	most    = 65577
	maxPack = 1048576
)

// blob are so many bytes, unlike those of other seeds.
func blob(n, seed int) []byte {
	b := make([]byte, n)
	for i := range b {
		b[i] = byte(i*7 + seed*31 + i>>8)
	}
	return b
}

// blobs are blobs of these sizes.
func blobs(sizes ...int) [][]byte {
	var l [][]byte
	for i, n := range sizes {
		l = append(l, blob(n, i))
	}
	return l
}

// times is a size, so many times.
func times(n, size int) []int { return slices.Repeat([]int{size}, n) }

// sizesOf are those of blobs.
func sizesOf(l [][]byte) []int {
	var sizes []int
	for _, b := range l {
		sizes = append(sizes, len(b))
	}
	return sizes
}

// uint is a number as codec's words tell it.
func uint(n uint64) []byte { return binary.AppendUvarint(nil, n) }

// row is how many bytes there are, and them.
func row(b []byte) []byte { return append(uint(uint64(len(b))), b...) }

// join are rows, one behind the other.
func join(rows ...[]byte) []byte { return slices.Concat(rows...) }

// put are a pack's bytes, worked out from the words, whether it may be or not.
func put(l [][]byte) []byte {
	b := uint(uint64(len(l)))
	for _, x := range l {
		b = append(b, row(x)...)
	}
	return b
}

// length is how many bytes a pack of blobs of these sizes has, worked out from the words.
func length(sizes []int) int {
	n := len(uint(uint64(len(sizes))))
	for _, size := range sizes {
		n += len(uint(uint64(size))) + size
	}
	return n
}

// told is what Put must answer, worked out from the words.
func told(l [][]byte) api.Errno {
	for _, b := range l {
		if !(len(b) > least-1 && len(b) < most+1) {
			return api.ErrArg
		}
	}
	switch {
	case len(l) == 0 || len(l) >= many+1:
		return api.ErrArg
	case length(sizesOf(l)) >= maxPack+1:
		return api.ErrBig
	}
	return api.OK
}

// full are sizes of so many blobs, whose pack has just so many bytes: all of them but the last one have the same size.
func full(t *testing.T, n, size, of int) []int {
	t.Helper()
	sizes := times(n-1, size)
	left := of - length(sizes) - len(uint(uint64(n))) + len(uint(uint64(n-1)))
	for last := max(least, left-3); last <= min(most, left); last++ {
		if len(uint(uint64(last)))+last == left {
			return append(sizes, last)
		}
	}
	t.Fatal("no such pack:", n, size, of)
	return nil
}

// few are some lists of blobs that may be.
func few() [][][]byte {
	return [][][]byte{
		blobs(41), blobs(42), blobs(41, 41), blobs(127), blobs(128, 127), blobs(64, 300, 41), blobs(16383, 16384), blobs(65536), blobs(most), blobs(most, 41, most),
		blobs(times(127, 41)...), blobs(times(128, 41)...), blobs(times(129, 50)...), blobs(times(many-1, 41)...), blobs(times(many, 41)...), blobs(times(15, most)...),
	}
}

// some is a list of blobs that may be.
func some(r *rand.Rand) [][]byte {
	var sizes []int
	for range 1 + r.Intn(6) {
		sizes = append(sizes, least+r.Intn(1+r.Intn(200)))
	}
	return blobs(sizes...)
}

// same tells whether two lists of blobs are one.
func same(a, b [][]byte) bool { return slices.EqualFunc(a, b, bytes.Equal) }

// clone is a list of blobs in memory of its own.
func clone(l [][]byte) [][]byte {
	var to [][]byte
	for _, b := range l {
		to = append(to, bytes.Clone(b))
	}
	return to
}

// short are at most some of the sizes.
func short(sizes []int) []int { return sizes[:min(len(sizes), 8)] }

// takes fails unless blobs are put, as the words tell it; the test's own telling must say so, too.
func takes(t *testing.T, l [][]byte) {
	t.Helper()
	if told(l) != api.OK {
		t.Fatal(len(l), "blobs, of", short(sizesOf(l)), "..: the test's own telling says otherwise")
	}
	b, err := packs.Put(l)
	if err != api.OK || !bytes.Equal(b, put(l)) {
		t.Error("put of", len(l), "blobs, of", short(sizesOf(l)), "..:", err, len(b), "bytes and not", len(put(l)), "or other ones")
	}
}

// bad fails unless blobs aren't put; the test's own telling must say so, too.
func bad(t *testing.T, l [][]byte, want api.Errno) {
	t.Helper()
	if told(l) != want {
		t.Fatal(len(l), "blobs, of", short(sizesOf(l)), "..: the test's own telling says otherwise")
	}
	if b, err := packs.Put(l); err != want || b != nil {
		t.Error("put of", len(l), "blobs, of", short(sizesOf(l)), "..:", err, "and not", want, len(b), "bytes")
	}
}

// gets fails unless bytes are those of these blobs.
func gets(t *testing.T, b []byte, want [][]byte) {
	t.Helper()
	if l, err := packs.Get(b); err != api.OK || !same(l, want) {
		t.Error("get of", len(b), "bytes:", err, len(l), "blobs and not", len(want), "or other ones")
	}
}

// refused fails unless bytes are refused.
func refused(t *testing.T, b []byte, want api.Errno) {
	t.Helper()
	if l, err := packs.Get(b); err != want || l != nil {
		t.Error("get of", len(b), "bytes,", b[:min(len(b), 12)], "..:", err, "and not", want, len(l), "blobs")
	}
}

// --- P13.1: Put

// Many is a number without a type of its own.
func TestP131Many(t *testing.T) {
	var wide uint64 = packs.Many
	var half float64 = packs.Many
	if wide != many || half != many {
		t.Error(wide, half)
	}
}

func TestP131PutByteByByte(t *testing.T) {
	a, b, c := blob(41, 1), blob(127, 2), blob(128, 3)
	for _, x := range []struct {
		l    [][]byte
		want []byte
	}{
		{[][]byte{a}, join([]byte{1, 41}, a)},
		{[][]byte{b}, join([]byte{1, 127}, b)},
		{[][]byte{c}, join([]byte{1, 128, 1}, c)},
		{[][]byte{a, a}, join([]byte{2, 41}, a, []byte{41}, a)},
		{[][]byte{c, a, b}, join([]byte{3, 128, 1}, c, []byte{41}, a, []byte{127}, b)},
		{[][]byte{make([]byte, 300)}, join([]byte{1, 172, 2}, make([]byte, 300))},
		{[][]byte{make([]byte, 16383), a}, join([]byte{2, 255, 127}, make([]byte, 16383), []byte{41}, a)},
		{[][]byte{make([]byte, 16384)}, join([]byte{1, 128, 128, 1}, make([]byte, 16384))},
		{[][]byte{make([]byte, 65577)}, join([]byte{1, 169, 128, 4}, make([]byte, 65577))},
		{slices.Repeat([][]byte{a}, 127), join([]byte{127}, bytes.Repeat(join([]byte{41}, a), 127))},
		{slices.Repeat([][]byte{a}, 128), join([]byte{128, 1}, bytes.Repeat(join([]byte{41}, a), 128))},
		{slices.Repeat([][]byte{a}, 1024), join([]byte{128, 8}, bytes.Repeat(join([]byte{41}, a), 1024))},
	} {
		got, err := packs.Put(x.l)
		if err != api.OK || !bytes.Equal(got, x.want) {
			t.Error(short(sizesOf(x.l)), err, len(got), "bytes,", got[:min(len(got), 8)])
		}
		gets(t, x.want, x.l)
	}
}

func TestP131PutOfBlobs(t *testing.T) {
	for _, l := range few() {
		takes(t, l)
	}
	// Blobs may be twins, and of any bytes.
	for _, c := range []byte{0, 1, 41, 127, 128, 255} {
		for n := range 5 {
			takes(t, slices.Repeat([][]byte{bytes.Repeat([]byte{c}, least+n)}, n+1))
		}
	}
	r := rand.New(rand.NewSource(131))
	for range 1000 {
		takes(t, some(r))
	}
}

func TestP131HowMany(t *testing.T) {
	bad(t, nil, api.ErrArg)
	bad(t, [][]byte{}, api.ErrArg)
	for _, n := range []int{1, 2, 3, 126, 127, 128, 129, 255, 256, 511, 512, many - 1, many} {
		takes(t, blobs(times(n, 41)...))
		takes(t, blobs(times(n, 43)...))
	}
	for _, n := range []int{many + 1, many + 2, many + 3, 2 * many, 16384, 65537} {
		bad(t, slices.Repeat([][]byte{blob(41, 1)}, n), api.ErrArg)
	}
}

// As many as would all be taken but for one of them.
func TestP131BlobsThatMayNotBe(t *testing.T) {
	for _, n := range []int{0, 1, 2, 31, 32, 39, 40, most + 1, most + 2, 65600, 1 << 17, maxPack, maxPack + 1} {
		bad(t, [][]byte{make([]byte, n)}, api.ErrArg)
		for at := range 4 {
			bad(t, slices.Insert(blobs(41, 50, most), at, make([]byte, n)), api.ErrArg)
		}
		for _, at := range []int{0, 1, many / 2, many - 2, many - 1} {
			l := slices.Repeat([][]byte{blob(41, 1)}, many)
			l[at] = make([]byte, n)
			bad(t, l, api.ErrArg)
		}
	}
	bad(t, [][]byte{nil}, api.ErrArg)
	bad(t, [][]byte{blob(41, 1), nil, blob(41, 1)}, api.ErrArg)
	bad(t, [][]byte{{}, nil}, api.ErrArg)
}

func TestP131BlobsOfEachLength(t *testing.T) {
	for n := range 300 {
		l := [][]byte{blob(n, 1)}
		if n < least {
			bad(t, l, api.ErrArg)
		} else {
			takes(t, l)
		}
	}
	for n := most - 50; n < most+50; n++ {
		l := [][]byte{make([]byte, n)}
		if n > most {
			bad(t, l, api.ErrArg)
		} else {
			takes(t, l)
		}
	}
}

// Packs that have just as many bytes as may be, and one more, and one less.
func TestP131TooBig(t *testing.T) {
	for _, x := range []struct{ n, size int }{{16, most}, {16, 65537}, {17, 65000}, {64, 16384}, {64, 16383}, {65, 16200}, {126, 8320}, {127, 8254}, {128, 8190}, {129, 8126}, {1000, 1046}, {many - 1, 1023}, {many, 1022}, {many, 1021}} {
		for _, of := range []int{maxPack - 2, maxPack - 1, maxPack} {
			sizes := full(t, x.n, x.size, of)
			takes(t, blobs(sizes...))
			slices.Reverse(sizes)
			takes(t, blobs(sizes...))
		}
		for _, of := range []int{maxPack + 1, maxPack + 2, maxPack + 3} {
			sizes := full(t, x.n, x.size, of)
			bad(t, blobs(sizes...), api.ErrBig)
			slices.Reverse(sizes)
			bad(t, blobs(sizes...), api.ErrBig)
		}
	}
	huge := make([]byte, most)
	for _, n := range []int{16, 17, 128, 1000, many} {
		bad(t, slices.Repeat([][]byte{huge}, n), api.ErrBig)
	}
	takes(t, slices.Repeat([][]byte{huge}, 15))
	// Of bytes as many as may be in all, the numbers come on top.
	bad(t, slices.Repeat([][]byte{huge[:65536]}, 16), api.ErrBig)
	bad(t, slices.Repeat([][]byte{huge[:1024]}, many), api.ErrBig)
}

// What may not be is told ahead of what is too big.
func TestP131ErrArgFirst(t *testing.T) {
	huge := make([]byte, most)
	for _, n := range []int{many + 1, 2 * many} {
		bad(t, slices.Repeat([][]byte{huge}, n), api.ErrArg)
	}
	for _, wrong := range [][]byte{nil, make([]byte, 40), make([]byte, most+1)} {
		for _, at := range []int{0, 1, 15, 16, 17, 100, many - 1} {
			bad(t, slices.Insert(slices.Repeat([][]byte{huge}, many-1), at, wrong), api.ErrArg)
		}
	}
	bad(t, slices.Repeat([][]byte{make([]byte, most+1)}, 16), api.ErrArg)
}

// --- P13.1: Get

func TestP131GetOfPacks(t *testing.T) {
	for _, l := range few() {
		gets(t, put(l), l)
	}
	for n := least; n < 300; n++ {
		gets(t, put(blobs(n)), blobs(n))
	}
	for _, n := range []int{16383, 16384, 65535, 65536, most - 1, most} {
		gets(t, put(blobs(n)), blobs(n))
		gets(t, put(blobs(41, n, 41)), blobs(41, n, 41))
	}
	// Just as many bytes as may be.
	for _, n := range []int{16, 17, 126, 127, 128, 129, many} {
		l := blobs(full(t, n, (maxPack-2)/n-3, maxPack)...)
		if b := put(l); len(b) == maxPack {
			gets(t, b, l)
		} else {
			t.Error(n, len(b))
		}
	}
}

// More bytes than may be are told ahead of all else, whatever they are.
func TestP131GetTooBig(t *testing.T) {
	for _, more := range []int{1, 2, 1000, maxPack} {
		for _, front := range [][]byte{nil, {0}, {1}, {1, 40}, {1, 41}, {128, 0}, {1, 128, 0}, bytes.Repeat([]byte{255}, 11), uint(many + 1), put(blobs(41)), put(blobs(times(15, most)...))} {
			b := make([]byte, maxPack+more)
			copy(b, front)
			refused(t, b, api.ErrBig)
		}
	}
	for _, of := range []int{maxPack + 1, maxPack + 2} {
		for _, n := range []int{16, 127, 128, many} {
			refused(t, put(blobs(full(t, n, (maxPack-2)/n-3, of)...)), api.ErrBig)
		}
	}
	// With just as many as may be it is told what they are.
	for _, x := range []struct {
		front []byte
		want  api.Errno
	}{
		{nil, api.ErrForm},
		{[]byte{128, 0}, api.ErrForm},
		{uint(many + 1), api.ErrForm},
		{join([]byte{1}, uint(most+1)), api.ErrBig},
		{join([]byte{17}, bytes.Repeat(row(make([]byte, most)), 15), uint(most)), api.ErrShort},
		{[]byte{1, 40}, api.ErrLeft},
		{put(blobs(41)), api.ErrLeft},
	} {
		b := make([]byte, maxPack)
		copy(b, x.front)
		refused(t, b, x.want)
	}
}

// Each front of a pack's bytes ends too early.
func TestP131Short(t *testing.T) {
	refused(t, nil, api.ErrShort)
	refused(t, []byte{}, api.ErrShort)
	for _, l := range few() {
		b := put(l)
		for n := range b {
			if n < 300 || n > len(b)-100 || n%(1+len(b)/97) == 0 {
				refused(t, b[:n], api.ErrShort)
			}
		}
	}
	for _, b := range [][]byte{{1}, {2}, {127}, {128}, {128, 1}, {128, 8}, {255}, {255, 255}, bytes.Repeat([]byte{255}, 9), {1, 128}, {1, 41}, {1, 169, 128, 4}, {1, 41, 1}, {1, 1}, {2, 0}, {1, 255, 255}} {
		refused(t, b, api.ErrShort)
	}
}

// Numbers stand in just one way.
func TestP131NumbersThatAreNone(t *testing.T) {
	one := row(blob(41, 1))
	for _, none := range [][]byte{{128, 0}, {129, 0}, {169, 0}, {130, 128, 0}, bytes.Repeat([]byte{255}, 10), bytes.Repeat([]byte{128}, 10), append(bytes.Repeat([]byte{129}, 9), 2)} {
		for _, more := range [][]byte{nil, {0}, {255}, one, blob(41, 1), join(one, one)} {
			refused(t, join(none, more), api.ErrForm)
			refused(t, join([]byte{1}, none, more), api.ErrForm)
			refused(t, join([]byte{2}, one, none, more), api.ErrForm)
			refused(t, join([]byte{3}, none, one, one, more), api.ErrForm)
		}
	}
}

// No blobs, or too many, are told as soon as their number is read, whatever follows, or nothing.
func TestP131HowManyAreRead(t *testing.T) {
	one := row(blob(41, 1))
	for _, n := range []uint64{0, many + 1, many + 2, 2 * many, 4096, 16383, 16384, 65536, 65536 + 1, 1<<31 - 1, 1 << 31, 1<<32 - 1, 1 << 32, 1<<32 + 1, 1<<63 - 1, 1 << 63, 1<<63 + 1, math.MaxUint64} {
		for _, more := range [][]byte{nil, {0}, {40}, {41}, {128}, {128, 0}, {255}, uint(most + 1), bytes.Repeat([]byte{255}, 10), one, join(one, []byte{0}), bytes.Repeat(one, many+2), make([]byte, maxPack-20)} {
			refused(t, join(uint(n), more), api.ErrForm)
		}
	}
	refused(t, put(blobs(times(many+1, 41)...)), api.ErrForm)
	// As many as may be are read.
	refused(t, uint(many), api.ErrShort)
	refused(t, join(uint(many), one, []byte{128, 0}), api.ErrForm)
	refused(t, join(uint(many), one, uint(most+1)), api.ErrBig)
	refused(t, join(uint(many), bytes.Repeat(one, many), []byte{0}), api.ErrLeft)
	refused(t, []byte{1}, api.ErrShort)
}

// Blobs that are longer than may be, whether they are there or not.
func TestP131TooLong(t *testing.T) {
	one := row(blob(41, 1))
	for _, n := range []uint64{most + 1, most + 2, 1 << 17, maxPack - 10, maxPack, maxPack + 1, 1<<31 - 1, 1 << 31, 1<<32 - 1, 1 << 32, 1<<32 + 41, 1 << 63, 1<<63 + 41, math.MaxUint64} {
		long := uint(n)
		if n < maxPack-200 {
			long = row(make([]byte, n))
		}
		for _, b := range [][]byte{uint(n), long, join(long, []byte{0})} {
			refused(t, join([]byte{1}, b), api.ErrBig)
			refused(t, join([]byte{2}, b, one), api.ErrBig)
			refused(t, join([]byte{2}, one, b), api.ErrBig)
			refused(t, join([]byte{3}, one, b, one), api.ErrBig)
		}
	}
	// As long as may be they are read.
	refused(t, join([]byte{1}, uint(most)), api.ErrShort)
	refused(t, join([]byte{1}, row(make([]byte, most))[:most]), api.ErrShort)
	refused(t, join([]byte{1}, row(make([]byte, most)), []byte{0}), api.ErrLeft)
}

func TestP131Left(t *testing.T) {
	for _, l := range few() {
		b := put(l)
		for _, more := range [][]byte{{0}, {1}, {41}, {128}, {255, 255, 255}, row(blob(41, 1)), blob(64, 2)} {
			refused(t, join(b, more), api.ErrLeft)
		}
	}
	refused(t, join(put(blobs(41)), put(blobs(41))), api.ErrLeft)
}

// A blob that is too short, at each place.
func TestP131BlobsTooShort(t *testing.T) {
	for n := range least {
		refused(t, put(blobs(n)), api.ErrForm)
		for at := range 4 {
			refused(t, put(slices.Insert(blobs(41, 50, 200), at, make([]byte, n))), api.ErrForm)
		}
	}
	for _, n := range []int{0, 1, 39, 40} {
		for _, at := range []int{0, 1, 126, 127, 128, many / 2, many - 2, many - 1} {
			sizes := times(many, 41)
			sizes[at] = n
			refused(t, put(blobs(sizes...)), api.ErrForm)
		}
		for _, size := range []int{n, 41, most} {
			refused(t, put(blobs(n, n, size)), api.ErrForm)
		}
	}
	refused(t, []byte{1, 0}, api.ErrForm)
	refused(t, []byte{3, 0, 0, 0}, api.ErrForm)
}

// The first fault that is read is told; that a blob is too short, last.
func TestP131FirstFault(t *testing.T) {
	one := row(blob(41, 1))
	for n := range least {
		low := row(make([]byte, n))
		refused(t, join([]byte{1}, low, []byte{0}), api.ErrLeft)
		refused(t, join([]byte{1}, low, one), api.ErrLeft)
		refused(t, join([]byte{2}, low), api.ErrShort)
		refused(t, join([]byte{2}, low, one[:41]), api.ErrShort)
		refused(t, join([]byte{2}, low, []byte{128}), api.ErrShort)
		refused(t, join([]byte{2}, low, []byte{128, 0}), api.ErrForm)
		refused(t, join([]byte{2}, low, uint(most+1)), api.ErrBig)
		refused(t, join([]byte{3}, low, one, uint(most+1)), api.ErrBig)
		refused(t, join([]byte{2}, low, one, []byte{0}), api.ErrLeft)
		refused(t, join([]byte{2}, one, low, []byte{0}), api.ErrLeft)
		if n > 0 {
			refused(t, join([]byte{1}, low[:n]), api.ErrShort)
			refused(t, join([]byte{2}, one, low[:n]), api.ErrShort)
		}
	}
	refused(t, join([]byte{2}, uint(most+1), []byte{128, 0}), api.ErrBig)
	refused(t, join([]byte{2, 128, 0}, uint(most+1)), api.ErrForm)
	refused(t, join([]byte{3}, one, uint(most+1), []byte{41}), api.ErrBig)
	refused(t, join([]byte{3}, one, []byte{128, 0}, uint(most+1)), api.ErrForm)
}

// --- P13.1: Id

// root is what bytes are known by, worked out from the words of chapter 6.
func root(b []byte) api.Id {
	var row [][]byte
	for at := 0; at == 0 || at < len(b); at += 64 {
		x := sha256.Sum256(join([]byte{0}, b[at:min(at+64, len(b))]))
		row = append(row, x[:])
	}
	n := binary.LittleEndian.AppendUint64(nil, uint64(len(row)))
	for len(row) > 1 {
		var above [][]byte
		for two := range slices.Chunk(row, 2) {
			if len(two) == 2 {
				x := sha256.Sum256(join([]byte{1}, two[0], two[1]))
				two = [][]byte{x[:]}
			}
			above = append(above, two[0])
		}
		row = above
	}
	return sha256.Sum256(join([]byte{2}, n, row[0]))
}

func TestP131Id(t *testing.T) {
	seen := map[api.Id]int{}
	for _, n := range []int{0, 1, 2, 41, 43, 63, 64, 65, 127, 128, 129, 191, 192, 193, 256, 257, 1000, 4096, 65577, 65581, maxPack - 1, maxPack} {
		b := blob(n, n)
		id := packs.Id(b)
		if id != root(b) || id != proof.Root(b) {
			t.Errorf("id of %d bytes: %x", n, id)
		}
		seen[id] = n
	}
	if len(seen) != 22 {
		t.Error(len(seen))
	}
	if packs.Id(nil) != packs.Id([]byte{}) {
		t.Error("nil and no bytes have two ids")
	}
	for _, l := range few() {
		b, err := packs.Put(l)
		if err != api.OK || packs.Id(b) != root(b) {
			t.Error(err, len(b))
		}
	}
}

// It is told of any bytes, of a pack or not, and more than a pack may have.
func TestP131IdOfAnyBytes(t *testing.T) {
	for _, b := range [][]byte{{0}, {1}, {1, 40}, {128, 0}, uint(many + 1), blob(maxPack+1, 1), blob(2*maxPack+65, 2)} {
		if packs.Id(b) != root(b) {
			t.Error(len(b))
		}
	}
	b := put(blobs(41, 64, 200))
	for at := range b {
		other := bytes.Clone(b)
		other[at] ^= 1
		if packs.Id(other) == packs.Id(b) || packs.Id(other) != root(other) || packs.Id(b[:at]) == packs.Id(b) {
			t.Error(at)
		}
	}
}

// --- P13.2: Fill

// span are the numbers from one on, below another one.
func span(from, end int) []int {
	var l []int
	for i := from; i < end; i++ {
		l = append(l, i)
	}
	return l
}

// fill are the packs, worked out from the words: of all that each one may be, it is the longest row of blobs.
func fill(sizes []int, limit int) [][]int {
	var l [][]int
	for from := 0; from < len(sizes); {
		end := min(from+many, len(sizes))
		for length(sizes[from:end]) > limit {
			end--
		}
		l = append(l, span(from, end))
		from = end
	}
	return l
}

// cuts are packs of so many blobs each.
func cuts(n ...int) [][]int {
	var l [][]int
	from := 0
	for _, k := range n {
		l = append(l, span(from, from+k))
		from += k
	}
	return l
}

// fills fails unless packs are filled like this; the test's own telling must say so, too.
func fills(t *testing.T, sizes []int, limit int, want [][]int) {
	t.Helper()
	if !slices.EqualFunc(fill(sizes, limit), want, slices.Equal) {
		t.Fatal(len(sizes), "blobs, of", short(sizes), "..,", limit, ": the test's own telling says otherwise")
	}
	l, err := packs.Fill(sizes, limit)
	if err != api.OK || !slices.EqualFunc(l, want, slices.Equal) {
		t.Error("fill of", len(sizes), "blobs, of", short(sizes), "..,", limit, ":", err, len(l), "packs and not", len(want), "or other ones")
	}
}

// unfilled fails unless nothing is filled.
func unfilled(t *testing.T, sizes []int, limit int, want api.Errno) {
	t.Helper()
	if l, err := packs.Fill(sizes, limit); err != want || l != nil {
		t.Error("fill of", len(sizes), "blobs, of", short(sizes), "..,", limit, ":", err, "and not", want, len(l), "packs")
	}
}

func TestP132Example(t *testing.T) {
	fills(t, []int{41, 41, 41}, 90, [][]int{{0, 1}, {2}})
}

func TestP132NoBlobs(t *testing.T) {
	for _, limit := range []int{1, 2, 42, 43, 44, 1000, maxPack - 1, maxPack} {
		fills(t, nil, limit, nil)
		fills(t, []int{}, limit, nil)
	}
}

func TestP132MostThatMayNotBe(t *testing.T) {
	for _, limit := range []int{0, -1, -2, -43, -maxPack, math.MinInt32, math.MinInt, maxPack + 1, maxPack + 2, 2 * maxPack, math.MaxInt32, math.MaxInt} {
		for _, sizes := range [][]int{nil, {}, {41}, {41, 41}, {most}, {40}, {0}, times(2000, 41)} {
			unfilled(t, sizes, limit, api.ErrArg)
		}
	}
}

// Also where a blob is too big for a pack: what may not be is told first, wherever it stands.
func TestP132SizesThatMayNotBe(t *testing.T) {
	for _, size := range []int{0, 1, 2, 39, 40, -1, -41, -42, math.MinInt32, math.MinInt, most + 1, most + 2, 1 << 17, maxPack, maxPack + 1, math.MaxInt32, math.MaxInt} {
		for _, limit := range []int{1, 42, 43, 100, 65580, 65581, maxPack - 1, maxPack} {
			unfilled(t, []int{size}, limit, api.ErrArg)
			for at := range 4 {
				unfilled(t, slices.Insert([]int{41, most, 50}, at, size), limit, api.ErrArg)
			}
			for _, at := range []int{0, 1, many - 1, many, 2*many - 1} {
				sizes := times(2*many, 41)
				sizes[at] = size
				unfilled(t, sizes, limit, api.ErrArg)
			}
		}
	}
}

func TestP132SizesOfEachNumber(t *testing.T) {
	for size := range most + 100 {
		if size < least || size > most {
			unfilled(t, []int{size}, maxPack, api.ErrArg)
			continue
		}
		alone := length([]int{size})
		fills(t, []int{size}, alone, cuts(1))
		unfilled(t, []int{size}, alone-1, api.ErrBig)
	}
}

// A pack of one blob alone has more bytes than the blob.
func TestP132TooBig(t *testing.T) {
	for size, alone := range map[int]int{41: 43, 42: 44, 90: 92, 126: 128, 127: 129, 128: 131, 129: 132, 300: 303, 16383: 16386, 16384: 16388, 65536: 65540, most - 1: 65580, most: 65581} {
		for _, limit := range []int{alone, alone + 1, alone + 41} {
			fills(t, []int{size}, limit, cuts(1))
			fills(t, []int{size, size, size}, limit, cuts(1, 1, 1))
		}
		for _, limit := range []int{1, 2, 41, 42, alone - 4, alone - 3, alone - 2, alone - 1} {
			unfilled(t, []int{size}, limit, api.ErrBig)
			unfilled(t, []int{size, size}, limit, api.ErrBig)
			for at := range 3 {
				unfilled(t, slices.Insert([]int{41, 41}, at, size), limit, api.ErrBig)
			}
		}
	}
	// At each place, also behind packs that are filled.
	for _, at := range []int{0, 1, 500, many - 1, many, 3000} {
		unfilled(t, slices.Insert(times(3000, 41), at, 1000), 1002, api.ErrBig)
	}
	fills(t, []int{1000, 41, 1000}, 1003, cuts(1, 1, 1))
}

// Packs that are just full, and those with a byte more or less.
func TestP132JustFull(t *testing.T) {
	for _, size := range []int{41, 42, 100, 127, 128, 300, 1000} {
		for _, n := range []int{2, 3, 10, 126, 127, 128, 129, 200} {
			of := length(times(n, size))
			fills(t, times(n, size), of, cuts(n))
			fills(t, times(n, size), of+1, cuts(n))
			fills(t, times(n, size), of-1, cuts(n-1, 1))
			fills(t, times(n+1, size), of, cuts(n, 1))
			fills(t, times(2*n, size), of, cuts(n, n))
			fills(t, times(3*n-1, size), of, cuts(n, n, n-1))
		}
	}
	for _, n := range []int{16, 17, 127, 128, 1000, many} {
		sizes := full(t, n, (maxPack-2)/n-3, maxPack)
		fills(t, sizes, maxPack, cuts(n))
		fills(t, sizes, maxPack-1, cuts(n-1, 1))
		fills(t, append(slices.Clone(sizes), 41), maxPack, cuts(n, 1))
		fills(t, slices.Concat(sizes, sizes), maxPack, cuts(n, n))
		fills(t, full(t, n, (maxPack-2)/n-3, maxPack+1), maxPack, cuts(n-1, 1))
	}
}

// From 128 blobs on their number takes a byte more, from 128 bytes on a blob's does.
func TestP132NumbersOfMoreBytes(t *testing.T) {
	for _, x := range []struct {
		limit int
		want  [][]int
	}{
		{1 + 126*42, cuts(126, 74)},
		{1 + 127*42 - 1, cuts(126, 74)},
		{1 + 127*42, cuts(127, 73)},
		{1 + 128*42, cuts(127, 73)},
		{2 + 128*42, cuts(128, 72)},
		{2 + 129*42 - 1, cuts(128, 72)},
		{2 + 129*42, cuts(129, 71)},
	} {
		fills(t, times(200, 41), x.limit, x.want)
	}
	fills(t, times(4, 127), 1+2*128, cuts(2, 2))
	fills(t, times(4, 128), 1+2*129, cuts(1, 1, 1, 1))
	fills(t, times(4, 128), 1+2*130, cuts(2, 2))
	fills(t, times(4, 16383), 1+2*16385, cuts(2, 2))
	fills(t, times(4, 16384), 1+2*16386, cuts(1, 1, 1, 1))
	fills(t, times(4, 16384), 1+2*16387, cuts(2, 2))
}

// A pack has no more than 1024 blobs, whatever room there is.
func TestP132NotMoreThanMany(t *testing.T) {
	for _, limit := range []int{2 + many*42, 2 + many*42 + 1, 2 + (many+1)*42, 100000, maxPack} {
		for _, want := range [][][]int{cuts(many - 1), cuts(many), cuts(many, 1), cuts(many, many-1), cuts(many, many), cuts(many, many, 1), cuts(many, many, many, many, 904)} {
			n := 0
			for _, pack := range want {
				n += len(pack)
			}
			fills(t, times(n, 41), limit, want)
		}
	}
	fills(t, times(many, 41), 2+many*42-1, cuts(many-1, 1))
	fills(t, times(many+1, 41), 2+many*42-1, cuts(many-1, 2))
}

// No blob comes ahead of another one, and none is passed over, whatever room is left.
func TestP132InOrder(t *testing.T) {
	fills(t, []int{41, 100, 41}, 102, cuts(1, 1, 1))
	fills(t, []int{41, 100, 41, 41}, 102, cuts(1, 1, 2))
	fills(t, []int{100, 41, 41, 100}, 143, cuts(1, 2, 1))
	fills(t, []int{100, 41, 41, 100}, 144, cuts(2, 2))
	fills(t, []int{100, 41, 41, 100}, 185, cuts(2, 2))
	fills(t, []int{100, 41, 41, 100}, 186, cuts(3, 1))
	fills(t, []int{most, 41, most, 41}, 65581, cuts(1, 1, 1, 1))
}

// The first packs have as many as may be, though others might be evener.
func TestP132AsManyAsMayBe(t *testing.T) {
	fills(t, times(4, 41), 1+3*42, cuts(3, 1))
	fills(t, times(7, 41), 1+3*42, cuts(3, 3, 1))
	fills(t, []int{41, 41, 41, 200, 200}, 405, cuts(4, 1))
	fills(t, []int{41, 41, 41, 200, 200}, 328, cuts(3, 1, 1))
	fills(t, []int{200, 41, 41, 41, 200}, 328, cuts(3, 2))
}

// All lists of up to five of these sizes, in packs of each number of bytes that tells them apart.
func TestP132AllShortLists(t *testing.T) {
	var all func(sizes []int)
	all = func(sizes []int) {
		for limit := 131; limit < 700; limit += 1 + limit%3 {
			fills(t, sizes, limit, fill(sizes, limit))
		}
		if len(sizes) == 5 {
			return
		}
		for _, size := range []int{41, 42, 127, 128} {
			all(append(slices.Clone(sizes), size))
		}
	}
	all(nil)
}

func TestP132SomeLists(t *testing.T) {
	r := rand.New(rand.NewSource(132))
	for range 300 {
		upto := 1 + r.Intn(1+r.Intn(most-least))
		var sizes []int
		for range r.Intn(300) {
			sizes = append(sizes, least+r.Intn(upto))
		}
		alone := length([]int{least + upto - 1})
		limit := alone + r.Intn(1+r.Intn(maxPack-alone+1))
		fills(t, sizes, limit, fill(sizes, limit))
	}
}

// --- P13.3: what follows

func TestP133PutIsGot(t *testing.T) {
	r := rand.New(rand.NewSource(133))
	all := few()
	for range 2000 {
		all = append(all, some(r))
	}
	for _, l := range all {
		b, err := packs.Put(l)
		if err != api.OK {
			t.Fatal(short(sizesOf(l)), err)
		}
		got, err := packs.Get(b)
		if err != api.OK || !same(got, l) {
			t.Fatal(short(sizesOf(l)), err, len(got))
		}
		again, err := packs.Put(got)
		if err != api.OK || !bytes.Equal(again, b) {
			t.Fatal(short(sizesOf(l)), err, len(again))
		}
	}
}

// Bytes that are changed anywhere are refused, or those of other blobs, and of no other bytes.
func TestP133OneRowOfBytesAPack(t *testing.T) {
	r := rand.New(rand.NewSource(1333))
	taken := 0
	for range 8000 {
		l := some(r)
		b := put(l)
		for range 1 + r.Intn(2) {
			switch at := r.Intn(len(b)); r.Intn(4) {
			case 0:
				b[at] ^= 1 << r.Intn(8)
			case 1:
				b = slices.Insert(b, at, byte(r.Intn(256)))
			case 2:
				b = append(slices.Delete(b, at, at+1), 0)
			case 3:
				b[0] = byte(r.Intn(8))
			}
		}
		got, err := packs.Get(b)
		if err != api.OK {
			if got != nil {
				t.Fatal("blobs beside an error")
			}
			continue
		}
		taken++
		if told(got) != api.OK || !bytes.Equal(put(got), b) {
			t.Fatal(b[:41], ".. is read as other bytes are")
		}
		if again, err := packs.Put(got); err != api.OK || !bytes.Equal(again, b) {
			t.Fatal(b[:41], "..:", err)
		}
		if same(got, l) != bytes.Equal(put(l), b) {
			t.Fatal(b[:41], ".. is read as other bytes are")
		}
	}
	if taken < 1000 {
		t.Error("too few are taken:", taken)
	}
}

// Each blob is told once, in order, and each pack of them is put, in as many bytes as were asked for.
func TestP133FilledPacksArePut(t *testing.T) {
	r := rand.New(rand.NewSource(13333))
	huge := make([]byte, most)
	for range 200 {
		upto := 1 + r.Intn(1+r.Intn(most-least+1))
		var sizes []int
		for range r.Intn(3000) / (1 + upto/1000) {
			sizes = append(sizes, least+r.Intn(upto))
		}
		limit := min(maxPack, length([]int{least + upto - 1})+r.Intn(maxPack))
		l, err := packs.Fill(sizes, limit)
		if err != api.OK {
			t.Fatal(short(sizes), limit, err)
		}
		next := 0
		for i, pack := range l {
			var blobs [][]byte
			for _, n := range pack {
				if n != next {
					t.Fatal(short(sizes), limit, ":", n, "and not", next)
				}
				blobs = append(blobs, huge[:sizes[n]])
				next++
			}
			b, err := packs.Put(blobs)
			if err != api.OK || len(b) > limit {
				t.Fatal(short(sizes), limit, ": pack", i, err, len(b))
			}
			// One more, and it would be too big, or have too many.
			if next < len(sizes) {
				b, err := packs.Put(append(blobs, huge[:sizes[next]]))
				if err == api.OK && len(b) <= limit {
					t.Fatal(short(sizes), limit, ": pack", i, "has room for more")
				}
			}
		}
		if next != len(sizes) {
			t.Fatal(short(sizes), limit, ":", next, "blobs and not", len(sizes))
		}
	}
}

// Blobs that seal makes may be: of no bytes, and of as many as may be sealed.
func TestP133SealedBlobs(t *testing.T) {
	key := api.Key{1, 2, 3}
	var l [][]byte
	for i, n := range []int{0, 1, 64, api.MaxBlob} {
		b, err := seal.Seal(key, 1, uint64(i), make([]byte, n))
		if err != api.OK {
			t.Fatal(err)
		}
		l = append(l, b)
	}
	b, err := packs.Put(l)
	if err != api.OK {
		t.Fatal(err)
	}
	got, err := packs.Get(b)
	if err != api.OK || !same(got, l) {
		t.Error(err, len(got))
	}
	fills(t, sizesOf(l), len(b), cuts(4))
	fills(t, sizesOf(l), len(b)-1, cuts(3, 1))
}

// --- What is handed in stays, and what is told is in memory of its own

func TestStays(t *testing.T) {
	r := rand.New(rand.NewSource(13))
	for range 300 {
		l := some(r)
		if r.Intn(3) == 0 {
			l = append(l, nil, blob(40, 1))
		}
		// There is room behind each list, in which nothing changes either.
		var rooms, wasRooms [][]byte
		for i, b := range l {
			room := append(bytes.Clone(b), 1, 2, 3)
			rooms, wasRooms = append(rooms, room), append(wasRooms, bytes.Clone(room))
			l[i] = room[:len(b)]
		}
		list := append(slices.Clone(l), blob(41, 8), blob(41, 9))
		was := clone(list)
		for range 2 {
			packs.Put(list[:len(l)])
		}
		if !same(list, was) || !same(rooms, wasRooms) {
			t.Fatal("blobs that are handed in are changed")
		}
		b := join(put(l), []byte{1, 2, 3})
		wasBytes := bytes.Clone(b)
		for _, n := range []int{0, len(b) / 2, len(b) - 3, len(b)} {
			packs.Get(b[:n])
			packs.Id(b[:n])
		}
		if !bytes.Equal(b, wasBytes) {
			t.Fatal("bytes that are handed in are changed")
		}
		sizes := append(sizesOf(l), 7, 8, 9)
		wasSizes := slices.Clone(sizes)
		for _, limit := range []int{0, 1, 100, 300, maxPack} {
			packs.Fill(sizes[:len(l)], limit)
		}
		if !slices.Equal(sizes, wasSizes) {
			t.Fatal("sizes that are handed in are changed")
		}
	}
}

func TestNotKept(t *testing.T) {
	for _, l := range few() {
		want, sizes := put(l), sizesOf(l)
		mine := clone(l)
		b, _ := packs.Put(mine)
		for _, x := range mine {
			clear(x)
		}
		clear(mine)
		if !bytes.Equal(b, want) {
			t.Error("what is put changes with what was handed in:", short(sizes))
		}
		got, err := packs.Get(b)
		clear(b)
		if err != api.OK || !same(got, l) {
			t.Error("what is got changes with the bytes it is of:", short(sizes))
		}
		filled, err := packs.Fill(sizes, maxPack)
		clear(sizes)
		if err != api.OK || !slices.EqualFunc(filled, cuts(len(l)), slices.Equal) {
			t.Error("what is filled changes with what was handed in:", len(l))
		}
	}
}

// Nothing that is done with one answer, or with a part of it, reaches another one.
func TestAnswersInNewMemory(t *testing.T) {
	for _, l := range few() {
		want := put(l)
		one, _ := packs.Put(l)
		other, _ := packs.Put(l)
		clear(one[:cap(one)])
		if !bytes.Equal(other, want) || !bytes.Equal(put(l), want) {
			t.Error("two answers of Put share memory:", short(sizesOf(l)))
		}
		a, _ := packs.Get(want)
		b, _ := packs.Get(want)
		for i, x := range a {
			clear(x[:cap(x)])
			_ = append(x, 1, 2, 3)
			if !same(a[i+1:], l[i+1:]) {
				t.Fatal("two blobs share memory:", short(sizesOf(l)))
			}
		}
		clear(a[:cap(a)])
		if !same(b, l) || !bytes.Equal(want, put(l)) {
			t.Error("two answers of Get share memory:", short(sizesOf(l)))
		}
	}
}

func TestFilledInNewMemory(t *testing.T) {
	sizes := times(100, 41)
	for _, n := range []int{1, 2, 3, 5, 33, 100} {
		limit := length(times(n, 41))
		want := fill(sizes, limit)
		one, _ := packs.Fill(sizes, limit)
		other, _ := packs.Fill(sizes, limit)
		for i, pack := range one {
			clear(pack[:cap(pack)])
			_ = append(pack, 7, 8, 9)
			if !slices.EqualFunc(one[i+1:], want[i+1:], slices.Equal) {
				t.Fatal("two packs share memory:", limit)
			}
		}
		clear(one[:cap(one)])
		if !slices.EqualFunc(other, want, slices.Equal) || !slices.Equal(sizes, times(100, 41)) {
			t.Error("two answers of Fill share memory:", limit)
		}
	}
}

// The same calls have the same answers, whatever was called between.
func TestNoStateOfItsOwn(t *testing.T) {
	for range 3 {
		for _, l := range few() {
			takes(t, l)
			gets(t, put(l), l)
			fills(t, sizesOf(l), maxPack, cuts(len(l)))
			bad(t, nil, api.ErrArg)
			bad(t, blobs(40), api.ErrArg)
			refused(t, []byte{1, 41}, api.ErrShort)
			refused(t, []byte{0}, api.ErrForm)
			unfilled(t, []int{41}, 0, api.ErrArg)
			unfilled(t, []int{41, 42}, 43, api.ErrBig)
			fills(t, []int{41, 41, 41}, 90, cuts(2, 1))
			if packs.Id([]byte{1}) != root([]byte{1}) {
				t.Error("another id")
			}
		}
	}
}
