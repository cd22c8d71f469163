package codec_test

import (
	"bytes"
	"encoding/binary"
	"math"
	"math/rand"
	"strings"
	"testing"

	"bailee/api"
	"bailee/codec"
)

// rep is a byte, so many times, and others behind it.
func rep(c byte, n int, others ...byte) []byte {
	return append(bytes.Repeat([]byte{c}, n), others...)
}

// silent fails unless a reader answers nothing, takes nothing and keeps its error.
func silent(t *testing.T, r *codec.Reader, want api.Errno) {
	t.Helper()
	for range 2 {
		if x := r.Uint(); x != 0 {
			t.Error("Uint", x)
		}
		for _, n := range []int{-1, 0, 1, math.MaxInt} {
			if b := r.Fixed(n); len(b) != 0 {
				t.Error("Fixed", n, b)
			}
			if b := r.Bytes(n); len(b) != 0 {
				t.Error("Bytes", n, b)
			}
		}
		if r.Bool() {
			t.Error("Bool")
		}
		if r.Id() != (api.Id{}) {
			t.Error("Id")
		}
		if r.Err() != want || r.End() != want {
			t.Error("Err", r.Err(), "End", r.End(), "want", want)
		}
	}
}

// --- P1.1: a Reader's numbers and bytes

func TestP11Uint(t *testing.T) {
	for _, c := range []struct {
		b    []byte
		want uint64
	}{
		{[]byte{0}, 0},
		{[]byte{1}, 1},
		{[]byte{127}, 127},
		{[]byte{128, 1}, 128},
		{[]byte{172, 2}, 300},
		{[]byte{255, 127}, 1<<14 - 1},
		{[]byte{128, 128, 1}, 1 << 14},
		{rep(128, 8, 1), 1 << 56},
		{rep(255, 8, 127), 1<<63 - 1},
		{rep(128, 9, 1), 1 << 63},
		{rep(255, 9, 1), math.MaxUint64},
	} {
		r := codec.NewReader(append(bytes.Clone(c.b), 9))
		if x := r.Uint(); x != c.want || r.Err() != api.OK {
			t.Error(c.b, "told", x, r.Err())
		}
		if x := r.Uint(); x != 9 || r.End() != api.OK {
			t.Error(c.b, "took other bytes: behind it", x, r.End())
		}
	}
}

func TestP11UintWrong(t *testing.T) {
	for _, c := range []struct {
		b    []byte
		want api.Errno
	}{
		{nil, api.ErrShort},
		{[]byte{128}, api.ErrShort},
		{[]byte{255}, api.ErrShort},
		{[]byte{255, 129}, api.ErrShort},
		{rep(128, 9), api.ErrShort},
		{rep(255, 9), api.ErrShort},
		{[]byte{128, 0}, api.ErrForm},
		{[]byte{255, 0}, api.ErrForm},
		{[]byte{172, 130, 0, 1}, api.ErrForm},
		{rep(128, 8, 0), api.ErrForm},
		{rep(255, 9, 0), api.ErrForm},
		{rep(255, 9, 2), api.ErrForm},
		{rep(128, 9, 2), api.ErrForm},
		{rep(128, 9, 127), api.ErrForm},
		{rep(128, 9, 128), api.ErrForm},
		{rep(128, 9, 129), api.ErrForm},
		{rep(255, 10), api.ErrForm},
		{rep(128, 10, 0), api.ErrForm},
		{rep(128, 10, 1), api.ErrForm},
		{rep(128, 1000), api.ErrForm},
	} {
		r := codec.NewReader(c.b)
		if x := r.Uint(); x != 0 || r.Err() != c.want {
			t.Error(c.b, "told", x, r.Err(), "want", c.want)
		}
		silent(t, r, c.want)
	}
}

func TestP11Fixed(t *testing.T) {
	r := codec.NewReader([]byte("abcdef"))
	if b := r.Fixed(0); len(b) != 0 || r.Err() != api.OK {
		t.Error(b, r.Err())
	}
	if b := r.Fixed(2); string(b) != "ab" {
		t.Error(b)
	}
	if b := r.Fixed(4); string(b) != "cdef" || r.End() != api.OK {
		t.Error(b, r.End())
	}
	if b := r.Fixed(0); len(b) != 0 || r.End() != api.OK {
		t.Error("none are left, none are asked for:", b, r.End())
	}
}

func TestP11FixedWrong(t *testing.T) {
	for n, want := range map[int]api.Errno{
		-1:            api.ErrArg,
		math.MinInt:   api.ErrArg,
		4:             api.ErrShort,
		math.MaxInt32: api.ErrShort,
		math.MaxInt:   api.ErrShort,
	} {
		r := codec.NewReader([]byte("abc"))
		if b := r.Fixed(n); len(b) != 0 || r.Err() != want {
			t.Error(n, b, r.Err())
		}
		silent(t, r, want)
	}
}

func TestP11FixedWrongOfNoBytes(t *testing.T) {
	r := codec.NewReader(nil)
	if b := r.Fixed(-1); len(b) != 0 || r.Err() != api.ErrArg {
		t.Error(b, r.Err())
	}
}

func TestP11FirstErrorStays(t *testing.T) {
	r := codec.NewReader([]byte{2, 0, 1, 5})
	r.Bool()
	silent(t, r, api.ErrForm)
	r = codec.NewReader([]byte{1, 1, 1})
	r.Fixed(-7)
	silent(t, r, api.ErrArg)
	r = codec.NewReader([]byte{200, 1, 1})
	r.Bytes(3)
	silent(t, r, api.ErrBig)
	r = codec.NewReader([]byte{1, 1, 1})
	r.Id()
	silent(t, r, api.ErrShort)
}

func TestP11NewMemory(t *testing.T) {
	in := []byte{3, 1, 2, 3, 4, 5, 6}
	r := codec.NewReader(in)
	clear(in)
	a := r.Bytes(3)
	if !bytes.Equal(a, []byte{1, 2, 3}) {
		t.Fatal("what was handed in is kept:", a)
	}
	_ = append(a, 99, 99, 99)
	clear(a)
	b := r.Fixed(2)
	if !bytes.Equal(b, []byte{4, 5}) {
		t.Fatal("what was answered reaches what is left:", b)
	}
	clear(b)
	if !bytes.Equal(in, make([]byte, len(in))) || r.Uint() != 6 || r.End() != api.OK {
		t.Error(in, r.End())
	}
	in = []byte{1, 2, 3}
	r = codec.NewReader(in)
	clear(r.Fixed(3))
	if !bytes.Equal(in, []byte{1, 2, 3}) {
		t.Error("what was handed in is changed:", in)
	}
}

func TestP11NewMemoryOfCopies(t *testing.T) {
	r := codec.NewReader([]byte{1, 2, 3})
	again := *r
	clear(r.Fixed(3))
	if b := again.Fixed(3); !bytes.Equal(b, []byte{1, 2, 3}) {
		t.Error(b)
	}
}

// --- P1.2: Bytes, Bool, Id, Err, End

func TestP12Bytes(t *testing.T) {
	r := codec.NewReader([]byte{0, 2, 'a', 'b', 1, 'c', 3, 'd', 'e', 'f'})
	for _, c := range []struct {
		most int
		want string
	}{{0, ""}, {2, "ab"}, {math.MaxInt, "c"}, {3, "def"}} {
		if b := r.Bytes(c.most); string(b) != c.want || r.Err() != api.OK {
			t.Error(c.want, b, r.Err())
		}
	}
	if r.End() != api.OK {
		t.Error(r.End())
	}
	long := rep(7, 300)
	r = codec.NewReader(append([]byte{172, 2}, long...))
	if b := r.Bytes(300); !bytes.Equal(b, long) || r.End() != api.OK {
		t.Error(len(b), r.End())
	}
}

func TestP12BytesWrong(t *testing.T) {
	for _, c := range []struct {
		b    []byte
		most int
		want api.Errno
	}{
		{nil, 4, api.ErrShort},
		{nil, -1, api.ErrShort},
		{[]byte{128}, -1, api.ErrShort},
		{[]byte{128, 0}, -1, api.ErrForm},
		{[]byte{128, 0}, 9, api.ErrForm},
		{rep(255, 9, 2), 9, api.ErrForm},
		{[]byte{0}, -1, api.ErrBig},
		{[]byte{1, 1}, math.MinInt, api.ErrBig},
		{[]byte{1, 1}, 0, api.ErrBig},
		{[]byte{3, 1, 2, 3}, 2, api.ErrBig},
		{[]byte{5, 1}, 4, api.ErrBig},
		{rep(255, 9, 1), math.MaxInt, api.ErrBig},
		{rep(255, 9, 1), -1, api.ErrBig},
		{rep(128, 9, 1), math.MaxInt, api.ErrBig},
		{rep(255, 8, 127), math.MaxInt, api.ErrShort},
		{[]byte{3, 1, 2}, 3, api.ErrShort},
		{[]byte{1}, 1, api.ErrShort},
	} {
		r := codec.NewReader(c.b)
		if b := r.Bytes(c.most); len(b) != 0 || r.Err() != c.want {
			t.Error(c.b, c.most, "told", b, r.Err(), "want", c.want)
		}
		silent(t, r, c.want)
	}
}

func TestP12Bool(t *testing.T) {
	r := codec.NewReader([]byte{1, 0, 1})
	if a, b, c := r.Bool(), r.Bool(), r.Bool(); !a || b || !c || r.End() != api.OK {
		t.Error(a, b, c, r.End())
	}
	if r.Bool() || r.Err() != api.ErrShort {
		t.Error("of no bytes:", r.Err())
	}
	for c := 2; c < 256; c++ {
		r := codec.NewReader([]byte{byte(c), 1})
		if r.Bool() || r.Err() != api.ErrForm {
			t.Error(c, r.Err())
		}
		silent(t, r, api.ErrForm)
	}
}

func TestP12Id(t *testing.T) {
	b := make([]byte, 33)
	for i := range b {
		b[i] = byte(i + 1)
	}
	r := codec.NewReader(b)
	if id := r.Id(); !bytes.Equal(id[:], b[:32]) || r.Err() != api.OK {
		t.Error(id, r.Err())
	}
	if x := r.Uint(); x != 33 || r.End() != api.OK {
		t.Error(x, r.End())
	}
	for _, n := range []int{0, 1, 31} {
		r := codec.NewReader(b[:n])
		if id := r.Id(); id != (api.Id{}) || r.Err() != api.ErrShort {
			t.Error(n, id, r.Err())
		}
		silent(t, r, api.ErrShort)
	}
}

func TestP12End(t *testing.T) {
	r := codec.NewReader([]byte{1, 2})
	for _, want := range []uint64{1, 2} {
		if r.End() != api.ErrLeft || r.Err() != api.OK {
			t.Error(r.End(), r.Err())
		}
		if x := r.Uint(); x != want {
			t.Error("ErrLeft stays:", x, want)
		}
	}
	if r.End() != api.OK || r.Err() != api.OK {
		t.Error(r.End(), r.Err())
	}
	r = codec.NewReader(nil)
	if r.End() != api.OK || r.Err() != api.OK {
		t.Error("of no bytes:", r.End(), r.Err())
	}
	r = codec.NewReader([]byte{2, 2})
	r.Bool()
	if r.End() != api.ErrForm {
		t.Error("an error is told ahead of what is left:", r.End())
	}
}

func TestP12Nil(t *testing.T) {
	silent(t, nil, api.ErrArg)
}

// --- P1.3: a Writer

func TestP13Uint(t *testing.T) {
	xs := []uint64{0, 1, 127, 128, 129, 255, 256, 300, 1<<14 - 1, 1 << 14, math.MaxUint32, math.MaxUint64 - 1, math.MaxUint64}
	for i := range 64 {
		xs = append(xs, 1<<i-1, 1<<i, 1<<i+1)
	}
	for _, x := range xs {
		w := codec.NewWriter()
		w.Uint(x)
		if b := w.Out(); !bytes.Equal(b, binary.AppendUvarint(nil, x)) {
			t.Error(x, b)
		}
	}
	w := codec.NewWriter()
	w.Uint(300)
	if b := w.Out(); !bytes.Equal(b, []byte{172, 2}) {
		t.Error(b)
	}
}

func TestP13Puts(t *testing.T) {
	w := codec.NewWriter()
	if b := w.Out(); len(b) != 0 {
		t.Error("of nothing:", b)
	}
	w.Fixed([]byte{7, 8})
	w.Fixed(nil)
	w.Bytes(nil)
	w.Bytes([]byte("xy"))
	w.Bool(true)
	w.Bool(false)
	w.Bool(true)
	w.Uint(128)
	want := []byte{7, 8, 0, 2, 'x', 'y', 1, 0, 1, 128, 1}
	if b := w.Out(); !bytes.Equal(b, want) {
		t.Error(b)
	}
	w = codec.NewWriter()
	long := rep('z', 300)
	w.Bytes(long)
	if b := w.Out(); !bytes.Equal(b, append([]byte{172, 2}, long...)) {
		t.Error(b)
	}
}

func TestP13NewMemory(t *testing.T) {
	w := codec.NewWriter()
	in := []byte{1, 2, 3}
	w.Fixed(in)
	w.Bytes(in)
	clear(in)
	want := []byte{1, 2, 3, 3, 1, 2, 3}
	a := w.Out()
	if !bytes.Equal(a, want) {
		t.Fatal("what was handed in is kept:", a)
	}
	_ = append(a, 50)
	clear(a)
	if b := w.Out(); !bytes.Equal(b, want) {
		t.Fatal("what was answered is kept:", b)
	}
	b := w.Out()
	w.Uint(9)
	_ = append(b, 50)
	if c := w.Out(); !bytes.Equal(c, append(want, 9)) || !bytes.Equal(b, want) {
		t.Error(b, c)
	}
}

func TestP13Nil(t *testing.T) {
	var w *codec.Writer
	w.Uint(1)
	w.Uint(math.MaxUint64)
	w.Fixed([]byte{1})
	w.Bytes([]byte{1})
	w.Bool(true)
	w.Bool(false)
	if b := w.Out(); len(b) != 0 {
		t.Error(b)
	}
}

// --- P1.4: what is put is read, and no other bytes are read as the same

// thing is what one call puts.
type thing struct {
	kind byte
	x    uint64
	b    []byte
}

// kinds of things: u Uint, f Fixed, b Bytes, o Bool, i Id.
const kinds = "ufboi"

func chance(r *rand.Rand) thing {
	t := thing{kind: kinds[r.Intn(len(kinds))]}
	switch t.kind {
	case 'u':
		t.x = r.Uint64() >> r.Intn(64)
	case 'o':
		t.x = uint64(r.Intn(2))
	case 'i':
		t.b = make([]byte, api.Digest)
	default:
		t.b = make([]byte, r.Intn(4)*r.Intn(100))
	}
	r.Read(t.b)
	return t
}

func put(l []thing) []byte {
	w := codec.NewWriter()
	for _, t := range l {
		switch t.kind {
		case 'u':
			w.Uint(t.x)
		case 'o':
			w.Bool(t.x == 1)
		case 'b':
			w.Bytes(t.b)
		default:
			w.Fixed(t.b)
		}
	}
	return w.Out()
}

// read tells whether bytes are read as just these things.
func read(l []thing, b []byte) bool {
	r := codec.NewReader(b)
	same := true
	for _, t := range l {
		switch t.kind {
		case 'u':
			same = same && r.Uint() == t.x
		case 'o':
			same = same && r.Bool() == (t.x == 1)
		case 'b':
			same = same && bytes.Equal(r.Bytes(len(t.b)), t.b)
		case 'i':
			id := r.Id()
			same = same && bytes.Equal(id[:], t.b)
		default:
			same = same && bytes.Equal(r.Fixed(len(t.b)), t.b)
		}
	}
	return same && r.End() == api.OK
}

func TestP14PutIsRead(t *testing.T) {
	r := rand.New(rand.NewSource(1))
	for range 2000 {
		l := make([]thing, r.Intn(8))
		for i := range l {
			l[i] = chance(r)
		}
		b := put(l)
		if !read(l, b) {
			t.Fatal(l, "isn't read of", b)
		}
		if read(l, append(bytes.Clone(b), byte(r.Intn(256)))) {
			t.Fatal(l, "is read of a byte more than", b)
		}
		if len(b) == 0 {
			continue
		}
		if n := r.Intn(len(b)); read(l, b[:n]) {
			t.Fatal(l, "is read of", n, "bytes of", b)
		}
		other := bytes.Clone(b)
		other[r.Intn(len(b))] ^= 1 << r.Intn(8)
		if read(l, other) {
			t.Fatal(l, "is read of", other, "too, beside", b)
		}
	}
}

// again is what is put of what one call reads of bytes; false: it doesn't read them, or not all.
func again(kind byte, b []byte) ([]byte, bool) {
	r, w := codec.NewReader(b), codec.NewWriter()
	switch kind {
	case 'u':
		w.Uint(r.Uint())
	case 'o':
		w.Bool(r.Bool())
	case 'b':
		w.Bytes(r.Bytes(len(b)))
	default:
		w.Fixed(r.Fixed(len(b)))
	}
	return w.Out(), r.End() == api.OK
}

func justOne(t *testing.T, b []byte) {
	t.Helper()
	for _, kind := range []byte("ufbo") {
		if out, ok := again(kind, b); ok && !bytes.Equal(out, b) {
			t.Fatalf("%c: %v is read as %v is", kind, b, out)
		}
	}
}

func TestP14NoOtherBytes(t *testing.T) {
	justOne(t, nil)
	for i := range 256 {
		justOne(t, []byte{byte(i)})
		for j := range 256 {
			justOne(t, []byte{byte(i), byte(j)})
			justOne(t, rep(byte(i), 8, byte(j)))
			justOne(t, rep(byte(i), 9, byte(j)))
			justOne(t, rep(128, 1, byte(i), byte(j)))
			justOne(t, rep(128, 8, byte(i), byte(j)))
			justOne(t, rep(255, 9, byte(i), byte(j)))
		}
	}
}

func TestP14TextsOfAllSizes(t *testing.T) {
	for _, n := range []int{0, 1, 127, 128, 129, 16383, 16384, api.MaxBlob, api.MaxPack} {
		l := []thing{{kind: 'b', b: []byte(strings.Repeat("t", n))}, {kind: 'u', x: uint64(n)}}
		if !read(l, put(l)) {
			t.Error(n)
		}
	}
}
