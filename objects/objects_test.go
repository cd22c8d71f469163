package objects_test

import (
	"bytes"
	"encoding/binary"
	"math"
	"math/rand"
	"reflect"
	"regexp"
	"slices"
	"strconv"
	"strings"
	"testing"

	"bailee/api"
	"bailee/files"
	"bailee/objects"
)

// Limits, as the words tell them.
const (
	mostBytes   = 32768
	mostIds     = 1000
	mostSize    = 1048576
	mostEntries = 500
	mostText    = 255
)

// id is an id of a number; those of other numbers are unlike.
func id(n int) api.Id {
	var x api.Id
	for i := range x {
		x[i] = byte(n*7 + i*31 + 1)
	}
	x[0], x[31] = byte(n), byte(n>>8)
	return x
}

// ids are so many.
func ids(n int) []api.Id {
	var l []api.Id
	for i := range n {
		l = append(l, id(i))
	}
	return l
}

// text are so many bytes, unlike those of other seeds.
func text(n, seed int) []byte {
	b := make([]byte, n)
	for i := range b {
		b[i] = byte(i*7 + seed*31)
	}
	return b
}

// entries are those of names, each with an id of its own; each second one is a directory.
func entries(names ...string) []objects.Entry {
	var l []objects.Entry
	for i, s := range names {
		l = append(l, objects.Entry{Name: s, Dir: i%2 == 1, Id: id(i + 100)})
	}
	return l
}

// number is a name; those of greater numbers are above it.
func number(i int) string { return strconv.Itoa(1000000 + i) }

// many are so many entries.
func many(n int) []objects.Entry {
	var l []string
	for i := range n {
		l = append(l, number(i))
	}
	return entries(l...)
}

func piece(b []byte) objects.Object { return objects.Object{Kind: 1, Bytes: b} }
func list(size uint64, l ...api.Id) objects.Object {
	return objects.Object{Kind: 2, Size: size, Ids: l}
}
func dir(l ...objects.Entry) objects.Object { return objects.Object{Kind: 3, Entries: l} }
func snap(n uint64, x api.Id, label string) objects.Object {
	return objects.Object{Kind: 4, Size: n, Ids: []api.Id{x}, Label: label}
}

// few are some objects of each kind that may be.
func few() []objects.Object {
	return []objects.Object{
		piece(nil), piece([]byte("x")), piece(text(300, 1)), piece(text(mostBytes, 2)),
		list(0), list(1, id(1)), list(300, id(2), id(2), api.Id{}), list(mostSize, ids(mostIds)...),
		dir(), dir(entries("a")...), dir(entries("a", "a!", "b", "\xff")...), dir(many(mostEntries)...),
		snap(0, id(3), ""), snap(1, api.Id{}, "label"), snap(math.MaxUint64, id(4), strings.Repeat("l", mostText)),
	}
}

// uint is a number as codec's words tell it.
func uint(n uint64) []byte { return binary.AppendUvarint(nil, n) }

// row is how many bytes there are, and them.
func row(b []byte) []byte { return append(uint(uint64(len(b))), b...) }

// put are an object's bytes, worked out from the words, whether it may be or not.
func put(x objects.Object) []byte {
	b := uint(uint64(x.Kind))
	switch x.Kind {
	case 1:
		b = append(b, row(x.Bytes)...)
	case 2:
		b = append(append(b, uint(x.Size)...), uint(uint64(len(x.Ids)))...)
		for _, y := range x.Ids {
			b = append(b, y[:]...)
		}
	case 3:
		b = append(b, uint(uint64(len(x.Entries)))...)
		for _, e := range x.Entries {
			b = append(b, row([]byte(e.Name))...)
			if e.Dir {
				b = append(b, 1)
			} else {
				b = append(b, 0)
			}
			b = append(b, e.Id[:]...)
		}
	case 4:
		b = append(append(b, uint(x.Size)...), x.Ids[0][:]...)
		b = append(b, row([]byte(x.Label))...)
	}
	return b
}

// names that may be: 1 to 255 bytes, none of them below 32 or a slash, and neither "." nor "..".
var names = regexp.MustCompile(`^(?s:[^/\x00-\x1f]+)$`)

// name tells whether a text may be a name, worked out from the words.
func name(s string) bool {
	return len(s) <= 255 && s != "." && s != ".." && names.MatchString(s)
}

// may tells whether an object may be, worked out from the words.
func may(x objects.Object) bool {
	var l, own []bool // which of the fields are something, and are those of its kind
	l = []bool{len(x.Bytes) > 0, x.Size != 0, len(x.Ids) > 0, len(x.Entries) > 0, len(x.Label) > 0}
	is := false
	switch x.Kind {
	case 1:
		own = []bool{true, false, false, false, false}
		is = len(x.Bytes) < mostBytes+1
	case 2:
		own = []bool{false, true, true, false, false}
		is = len(x.Ids) < mostIds+1 && x.Size < mostSize+1
		if len(x.Ids) == 0 {
			is = is && x.Size == 0
		} else {
			is = is && x.Size != 0
		}
	case 3:
		own = []bool{false, false, false, true, false}
		is = len(x.Entries) < mostEntries+1
		for i, e := range x.Entries {
			is = is && name(e.Name)
			for _, f := range x.Entries[i+1:] {
				is = is && bytes.Compare([]byte(e.Name), []byte(f.Name)) == -1
			}
		}
	case 4:
		own = []bool{false, true, true, false, true}
		is = len(x.Ids) == 1 && len(x.Label) < mostText+1
	default:
		return false
	}
	for i := range l {
		is = is && (own[i] || !l[i])
	}
	return is
}

// same tells whether two objects are one; nil lists are as empty ones.
func same(a, b objects.Object) bool {
	return a.Kind == b.Kind && bytes.Equal(a.Bytes, b.Bytes) && a.Size == b.Size && slices.Equal(a.Ids, b.Ids) && slices.Equal(a.Entries, b.Entries) && a.Label == b.Label
}

// clone is an object in memory of its own.
func clone(x objects.Object) objects.Object {
	x.Bytes, x.Ids, x.Entries = bytes.Clone(x.Bytes), slices.Clone(x.Ids), slices.Clone(x.Entries)
	return x
}

// some is an object of a kind that may be.
func some(r *rand.Rand, kind byte) objects.Object {
	switch kind {
	case 1:
		return piece(text(r.Intn(300), r.Intn(256)))
	case 2:
		l := ids(r.Intn(6))
		if len(l) == 0 {
			return list(0)
		}
		return list(1+uint64(r.Intn(mostSize)), l...)
	case 3:
		l := []string{" ", "...", ".a", "a", "a ", "a!", "aa", "ab", "b", "é", "\x7f", "\xff"}
		slices.Sort(l)
		return dir(entries(slices.DeleteFunc(l, func(string) bool { return r.Intn(2) == 0 })...)...)
	}
	return snap(r.Uint64()>>r.Intn(64), id(r.Intn(65536)), string(text(r.Intn(20), r.Intn(256))))
}

// short tells an object in few words.
func short(x objects.Object) string {
	return "kind " + strconv.Itoa(int(x.Kind)) + ", " + strconv.Itoa(len(x.Bytes)) + " bytes, size " + strconv.FormatUint(x.Size, 10) + ", " + strconv.Itoa(len(x.Ids)) + " ids, " + strconv.Itoa(len(x.Entries)) + " entries, label of " + strconv.Itoa(len(x.Label))
}

// checks fails unless Check, and Put, tell this of an object.
func checks(t *testing.T, x objects.Object, want api.Errno) {
	t.Helper()
	if err := objects.Check(x); err != want {
		t.Errorf("check of %s: %d and not %d", short(x), err, want)
	}
	b, err := objects.Put(x)
	if err != want || err != api.OK && b != nil {
		t.Errorf("put of %s: %d and not %d, %d bytes", short(x), err, want, len(b))
	}
	if want == api.OK && !bytes.Equal(b, put(x)) {
		t.Errorf("put of %s: %d bytes and not %d, or other ones", short(x), len(b), len(put(x)))
	}
}

// takes fails unless an object may be; the test's own telling must say so, too.
func takes(t *testing.T, x objects.Object) {
	t.Helper()
	if !may(x) {
		t.Fatalf("%s: the test's own telling says otherwise", short(x))
	}
	checks(t, x, api.OK)
}

// bad fails unless an object may not be; the test's own telling must say so, too.
func bad(t *testing.T, x objects.Object) {
	t.Helper()
	if may(x) {
		t.Fatalf("%s: the test's own telling says otherwise", short(x))
	}
	checks(t, x, api.ErrArg)
}

// gets fails unless bytes are those of this object.
func gets(t *testing.T, b []byte, want objects.Object) {
	t.Helper()
	x, err := objects.Get(b)
	if err != api.OK || !same(x, want) {
		t.Errorf("get of %d bytes: error %d, %s and not %s, or another one", len(b), err, short(x), short(want))
	}
}

// refused fails unless bytes are refused.
func refused(t *testing.T, b []byte, want api.Errno) {
	t.Helper()
	if x, err := objects.Get(b); err != want || !reflect.DeepEqual(x, objects.Object{}) {
		t.Errorf("get of %d bytes, %v ..: %d and not %d, %s", len(b), b[:min(len(b), 12)], err, want, short(x))
	}
}

// join are rows, one behind the other.
func join(rows ...[]byte) []byte { return slices.Concat(rows...) }

// --- P12.1: Check

// The kinds are numbers without a type of their own.
func TestP121Kinds(t *testing.T) {
	var small []byte = []byte{objects.Piece, objects.List, objects.Dir, objects.Snap}
	var wide []float64 = []float64{objects.Piece, objects.List, objects.Dir, objects.Snap}
	for i := range 4 {
		if small[i] != byte(i+1) || wide[i] != float64(i+1) {
			t.Error(i, small[i], wide[i])
		}
	}
}

func TestP121ObjectsThatMayBe(t *testing.T) {
	for _, x := range few() {
		takes(t, x)
	}
	takes(t, objects.Object{Kind: 1, Bytes: []byte{}, Ids: []api.Id{}, Entries: []objects.Entry{}})
	takes(t, objects.Object{Kind: 2, Bytes: []byte{}, Ids: []api.Id{}, Entries: []objects.Entry{}})
	takes(t, objects.Object{Kind: 3, Bytes: []byte{}, Ids: []api.Id{}, Entries: []objects.Entry{}})
	takes(t, objects.Object{Kind: 4, Bytes: []byte{}, Ids: ids(1), Entries: []objects.Entry{}})
}

// Of no other kind may anything be.
func TestP121OtherKinds(t *testing.T) {
	for kind := range 256 {
		for _, x := range append(few(), objects.Object{}) {
			x.Kind = byte(kind)
			if kind < 1 || kind > 4 {
				bad(t, x)
			} else if may(x) {
				checks(t, x, api.OK)
			} else {
				checks(t, x, api.ErrArg)
			}
		}
	}
}

// Each kind, with each of the fields something or nothing.
func TestP121FieldsOfOtherKinds(t *testing.T) {
	taken := 0
	for kind := range byte(6) {
		for which := range 1 << 5 {
			x := objects.Object{Kind: kind}
			if which&1 != 0 {
				x.Bytes = []byte{0}
			}
			if which&2 != 0 {
				x.Size = 1
			}
			if which&4 != 0 {
				x.Ids = []api.Id{{}} // a list of one isn't empty, whatever that one is
			}
			if which&8 != 0 {
				x.Entries = entries("a")
			}
			if which&16 != 0 {
				x.Label = "\x00"
			}
			want := api.ErrArg
			if may(x) {
				want = api.OK
				taken++
			}
			checks(t, x, want)
		}
	}
	// Of a Piece and a Dir two, of a List two, of a Snap four.
	if taken != 10 {
		t.Error(taken)
	}
}

// One field that is another kind's, of objects of each size.
func TestP121OneFieldOfAnotherKind(t *testing.T) {
	for _, x := range few() {
		for i, put := range []func(x *objects.Object){
			func(x *objects.Object) { x.Bytes = []byte{0} },
			func(x *objects.Object) { x.Size = 1 << 40 },
			func(x *objects.Object) { x.Ids = append(slices.Clone(x.Ids), api.Id{}) },
			func(x *objects.Object) { x.Entries = []objects.Entry{{}} },
			func(x *objects.Object) { x.Label = " " },
		} {
			own := map[byte][]int{1: {0}, 2: {1, 2}, 3: {3}, 4: {1, 4}}
			if y := clone(x); !slices.Contains(own[x.Kind], i) {
				put(&y)
				bad(t, y)
			}
		}
	}
}

func TestP121Pieces(t *testing.T) {
	for _, n := range []int{0, 1, 2, 127, 128, 255, 256, mostBytes - 1, mostBytes} {
		takes(t, piece(text(n, n)))
		takes(t, piece(make([]byte, n)))
	}
	for _, n := range []int{mostBytes + 1, mostBytes + 2, 2 * mostBytes, 1 << 16, 1 << 20} {
		bad(t, piece(make([]byte, n)))
	}
}

func TestP121Lists(t *testing.T) {
	for _, n := range []int{1, 2, 127, 128, mostIds - 1, mostIds} {
		for _, size := range []uint64{1, 2, uint64(n), mostBytes, mostSize - 1, mostSize} {
			takes(t, list(size, ids(n)...))
			takes(t, list(size, make([]api.Id, n)...))
		}
		for _, size := range []uint64{0, mostSize + 1, mostSize + 2, 1 << 21, 1 << 31, 1 << 32, 1<<32 + 1, 1 << 63, math.MaxUint64} {
			bad(t, list(size, ids(n)...))
			bad(t, list(size, make([]api.Id, n)...))
		}
	}
	for _, n := range []int{mostIds + 1, mostIds + 2, 1024, 2 * mostIds, 65536 + 1} {
		for _, size := range []uint64{0, 1, mostSize, mostSize + 1} {
			bad(t, list(size, make([]api.Id, n)...))
		}
	}
	// No Ids just if Size is 0.
	takes(t, list(0))
	for _, size := range []uint64{1, 2, mostSize, mostSize + 1, 1 << 32, math.MaxUint64} {
		bad(t, list(size))
	}
	// Ids may be twins, and needn't rise.
	takes(t, list(3, id(2), id(1), id(2)))
}

func TestP121Snaps(t *testing.T) {
	for _, n := range []uint64{0, 1, 2, mostSize, mostSize + 1, 1 << 32, 1 << 63, math.MaxUint64} {
		for _, k := range []int{0, 1, 127, 128, mostText - 1, mostText} {
			takes(t, snap(n, id(k), strings.Repeat("l", k)))
			takes(t, snap(n, api.Id{}, strings.Repeat("\x00", k)))
		}
		for _, k := range []int{mostText + 1, mostText + 2, 511, 512, 1 << 16, 1 << 20} {
			bad(t, snap(n, id(k), strings.Repeat("l", k)))
		}
		for _, k := range []int{0, 2, 3, 257, mostIds} {
			bad(t, objects.Object{Kind: 4, Size: n, Ids: ids(k)})
			bad(t, objects.Object{Kind: 4, Size: n, Ids: make([]api.Id, k), Label: "l"})
		}
	}
	// A label is any text, no name; its bytes count, not its runes.
	for _, s := range []string{"/", ".", "..", "a/b", "\n", "\xff\xfe", "é", strings.Repeat("世", 85)} {
		takes(t, snap(1, id(1), s))
	}
	bad(t, snap(1, id(1), strings.Repeat("世", 86)))
	for c := range 256 {
		takes(t, snap(1, id(1), string([]byte{byte(c)})))
	}
}

func TestP121Counts(t *testing.T) {
	for _, n := range []int{0, 1, 2, 127, 128, 255, 256, mostEntries - 1, mostEntries} {
		takes(t, dir(many(n)...))
	}
	for _, n := range []int{mostEntries + 1, mostEntries + 2, 512, 756, mostIds} {
		bad(t, dir(many(n)...))
	}
	// Names as long as may be, as many as may be.
	l := many(mostEntries)
	for i := range l {
		l[i].Name += strings.Repeat("n", 248)
	}
	takes(t, dir(l...))
	l[mostEntries-1].Name += "n"
	bad(t, dir(l...))
}

func TestP121NamesThatMayBe(t *testing.T) {
	for _, s := range []string{"a", " ", "...", "....", ".a", "a.", "..a", "a..", ". ", " .", "-", "~", "*", "\\", "a\\b", "C:", "\x7f", "\x80", "\xff", "é", "世界", strings.Repeat("a", 254), strings.Repeat("a", 255), strings.Repeat("世", 85), strings.Repeat(".", 255)} {
		for _, is := range []bool{false, true} {
			takes(t, dir(objects.Entry{Name: s, Dir: is}))
			takes(t, dir(objects.Entry{Name: s, Dir: is, Id: id(1)}))
		}
	}
}

func TestP121NamesThatMayNotBe(t *testing.T) {
	for _, s := range []string{"", ".", "..", "/", "//", "/a", "a/", "a/b", "a/b/c", "./a", "../a", "a/.", "a/..", "a//b", "\x00", "a\x00", "\na", "a\x1fb", "\t", strings.Repeat("a", 256), strings.Repeat("a", 257), strings.Repeat("a", 511), strings.Repeat("世", 86), strings.Repeat("a/", 127) + "a", strings.Repeat("a", 65537)} {
		bad(t, dir(entries(s)...))
		for at := range 4 {
			bad(t, dir(entries(slices.Insert([]string{"A", "b", "c"}, at, s)...)...))
		}
		// In its place, too: all that is wrong is the name itself.
		l := []string{"!", "0", "A", "b", s, "z", "\xff"}
		slices.Sort(l)
		bad(t, dir(entries(l...)...))
	}
}

// Each byte, at each place of a name.
func TestP121NameOfEachByte(t *testing.T) {
	for c := range 256 {
		s := string([]byte{byte(c)})
		for _, x := range []struct {
			name string
			may  bool
		}{
			{s, c >= 32 && c != '.' && c != '/'},
			{"a" + s, c >= 32 && c != '/'},
			{s + "a", c >= 32 && c != '/'},
			{"a" + s + "b", c >= 32 && c != '/'},
			{"." + s, c >= 32 && c != '.' && c != '/'},
			{".." + s, c >= 32 && c != '/'},
			{strings.Repeat("x", 254) + s, c >= 32 && c != '/'},
			{strings.Repeat("x", 255) + s, false},
		} {
			if (objects.Check(dir(entries(x.name)...)) == api.OK) != x.may {
				t.Errorf("%q: not %v", x.name, x.may)
			}
		}
	}
}

func TestP121NamesThatDoNotRise(t *testing.T) {
	for _, l := range [][]string{
		{"b", "a"}, {"a", "a"}, {"a", "b", "a"}, {"a", "c", "b"}, {"a", "b", "b"}, {"a", "a", "b"}, {"aa", "a"}, {"ab", "b", "aa"}, {"a", "A"}, {"a!", "a"}, {"a", " "}, {"\xff", "a"}, {"\x80", "\x7f"}, {"世", "é"}, {"10", "9", "8"}, {"9", "10"}, {"...", "-"},
		{"a", "b", "c", "d", "c0", "e"}, {strings.Repeat("a", 255), strings.Repeat("a", 254)}, {strings.Repeat("a", 255), strings.Repeat("a", 255)},
	} {
		bad(t, dir(entries(l...)...))
	}
	// As bytes, and as names: a of a/b stands ahead of a!.
	for _, l := range [][]string{{"a", "a!"}, {"A", "a"}, {"10", "9"}, {"\x7f", "\x80"}, {"é", "世"}, {"a", "a ", "aa", "b", "\xff"}, {" ", "-", "...", "0"}, {strings.Repeat("a", 254), strings.Repeat("a", 255)}} {
		takes(t, dir(entries(l...)...))
	}
	// Twins are none, in whatever else they part.
	bad(t, dir(objects.Entry{Name: "a", Id: id(1)}, objects.Entry{Name: "a", Dir: true, Id: id(2)}))
	bad(t, dir(objects.Entry{Name: "a", Dir: true, Id: id(2)}, objects.Entry{Name: "a", Id: id(1)}))
	// Ids may be twins, and needn't rise.
	takes(t, dir(objects.Entry{Name: "a", Id: id(2)}, objects.Entry{Name: "b", Id: id(1)}, objects.Entry{Name: "c", Dir: true, Id: id(2)}))
	// At the edges of as many as may be.
	for _, at := range []int{0, 1, 250, mostEntries - 2} {
		l := many(mostEntries)
		l[at+1].Name = l[at].Name
		bad(t, dir(l...))
	}
}

// All lists of up to four of these names.
func TestP121CheckOfAllShortLists(t *testing.T) {
	var all func(l []string)
	all = func(l []string) {
		x := dir(entries(l...)...)
		want := api.ErrArg
		if may(x) {
			want = api.OK
		}
		if err := objects.Check(x); err != want {
			t.Fatalf("%q: %d and not %d", l, err, want)
		}
		if len(l) == 4 {
			return
		}
		for _, s := range []string{"", ".", "a", "a!", "a/", "a/b", "aa", "b", "\x1f", "\xff"} {
			all(append(slices.Clone(l), s))
		}
	}
	all(nil)
}

// --- P12.1: Put

func TestP121Example(t *testing.T) {
	b, err := objects.Put(objects.Object{Kind: objects.Piece, Bytes: []byte("x")})
	if err != api.OK || !bytes.Equal(b, []byte{1, 1, 120}) {
		t.Error(b, err)
	}
}

func TestP121PutByteByByte(t *testing.T) {
	one, other := id(1), id(2)
	for _, x := range []struct {
		x    objects.Object
		want []byte
	}{
		{piece(nil), []byte{1, 0}},
		{piece([]byte{}), []byte{1, 0}},
		{piece([]byte{0}), []byte{1, 1, 0}},
		{piece([]byte("xyz")), []byte{1, 3, 'x', 'y', 'z'}},
		{piece(make([]byte, 300)), append([]byte{1, 172, 2}, make([]byte, 300)...)},
		{piece(make([]byte, mostBytes)), append([]byte{1, 128, 128, 2}, make([]byte, mostBytes)...)},
		{list(0), []byte{2, 0, 0}},
		{list(5, one), join([]byte{2, 5, 1}, one[:])},
		{list(300, one, other, one), join([]byte{2, 172, 2, 3}, one[:], other[:], one[:])},
		{list(mostSize, make([]api.Id, 1000)...), join([]byte{2, 128, 128, 64, 232, 7}, make([]byte, 32000))},
		{dir(), []byte{3, 0}},
		{dir(objects.Entry{Name: "a", Id: one}), join([]byte{3, 1, 1, 'a', 0}, one[:])},
		{dir(objects.Entry{Name: "a", Dir: true, Id: one}, objects.Entry{Name: "bc", Id: other}), join([]byte{3, 2, 1, 'a', 1}, one[:], []byte{2, 'b', 'c', 0}, other[:])},
		{dir(objects.Entry{Name: strings.Repeat("n", 200)}), join([]byte{3, 1, 200, 1}, bytes.Repeat([]byte{'n'}, 200), make([]byte, 33))},
		{snap(0, one, ""), join([]byte{4, 0}, one[:], []byte{0})},
		{snap(7, other, "label"), join([]byte{4, 7}, other[:], []byte{5, 'l', 'a', 'b', 'e', 'l'})},
		{snap(math.MaxUint64, api.Id{}, "\xff\x00"), join([]byte{4, 255, 255, 255, 255, 255, 255, 255, 255, 255, 1}, make([]byte, 32), []byte{2, 255, 0})},
		{snap(300, one, strings.Repeat("l", 255)), join([]byte{4, 172, 2}, one[:], []byte{255, 1}, bytes.Repeat([]byte{'l'}, 255))},
	} {
		b, err := objects.Put(x.x)
		if err != api.OK || !bytes.Equal(b, x.want) {
			t.Errorf("%s: %d, %v", short(x.x), err, b[:min(len(b), 100)])
		}
		gets(t, x.want, x.x)
	}
}

func TestP121PutOfSomeObjects(t *testing.T) {
	r := rand.New(rand.NewSource(121))
	for range 2000 {
		takes(t, some(r, byte(1+r.Intn(4))))
	}
}

// --- P12.2: Get

func TestP122GetOfObjects(t *testing.T) {
	for _, x := range few() {
		gets(t, put(x), x)
	}
}

// A field that is not its kind's has nothing in it.
func TestP122FieldsOfOtherKinds(t *testing.T) {
	for _, x := range few() {
		got, err := objects.Get(put(x))
		if err != api.OK {
			t.Fatal(err)
		}
		switch got.Kind {
		case 1:
			got.Bytes = nil
		case 2:
			got.Size, got.Ids = 0, nil
		case 3:
			got.Entries = nil
		case 4:
			got.Size, got.Ids, got.Label = 0, nil, ""
		}
		got.Kind = 0
		if !reflect.DeepEqual(got, objects.Object{}) {
			t.Error(short(got))
		}
	}
}

// Each front of an object's bytes ends too early.
func TestP122Short(t *testing.T) {
	refused(t, nil, api.ErrShort)
	refused(t, []byte{}, api.ErrShort)
	for _, x := range append(few(), list(300, ids(130)...), dir(many(130)...)) {
		b := put(x)
		for n := range b {
			if len(b) < 5000 || n < 300 || n%97 == 0 || n > len(b)-100 {
				refused(t, b[:n], api.ErrShort)
			}
		}
	}
	for _, b := range [][]byte{
		{1}, {2}, {3}, {4}, {128}, {129}, {255, 255}, bytes.Repeat([]byte{255}, 9), {1, 128}, {1, 1}, {1, 255, 255, 1, 'x'}, {2, 0}, {2, 1, 1}, {2, 0, 1}, {2, 1, 128}, {3, 1}, {3, 128}, {3, 1, 1}, {3, 1, 1, 'a'}, {3, 1, 1, 'a', 0}, {3, 1, 0}, {3, 2, 0, 0}, {4, 0}, {4, 128}, {4, 0, 0},
		{1, 128, 128, 2}, {2, 1, 232, 7}, {3, 244, 3}, {3, 1, 255, 1}, join([]byte{4, 0}, make([]byte, 32)), join([]byte{4, 0}, make([]byte, 32), []byte{255, 1}), join([]byte{4, 0}, make([]byte, 31)),
	} {
		refused(t, b, api.ErrShort)
	}
}

// A Kind that is none of these is told, whatever follows, or nothing.
func TestP122Kinds(t *testing.T) {
	kinds := []uint64{0, 256, 257, 258, 259, 260, 512 + 1, 1<<16 + 2, 1<<32 + 1, 1<<32 + 3, 1<<63 + 4, 1 << 63, math.MaxUint64}
	for kind := range uint64(256) {
		if kind > 4 {
			kinds = append(kinds, kind)
		}
	}
	for _, kind := range kinds {
		for _, more := range [][]byte{nil, {0}, {0, 0}, {1, 'x'}, {255}, {128, 0}, uint(mostBytes + 1), bytes.Repeat([]byte{255}, 10), put(piece([]byte("x")))[1:], put(list(1, id(1)))[1:], put(dir(entries("a")...))[1:], put(snap(1, id(1), "l"))[1:]} {
			refused(t, append(uint(kind), more...), api.ErrForm)
		}
	}
}

// Codec's error of the Kind.
func TestP122KindsThatAreNoNumbers(t *testing.T) {
	far := bytes.Repeat([]byte{255}, 10)
	for _, more := range [][]byte{nil, {1, 'x'}, {0, 0}, {255}} {
		for _, b := range [][]byte{{129, 0}, {130, 0}, {131, 0}, {132, 0}, {128, 0}, {129, 128, 0}, far, bytes.Repeat([]byte{128}, 10), append(bytes.Repeat([]byte{129}, 9), 2)} {
			refused(t, append(bytes.Clone(b), more...), api.ErrForm)
		}
	}
	for n := range 10 {
		refused(t, bytes.Repeat([]byte{129}, n), api.ErrShort)
	}
}

// Other numbers, too, stand in just one way.
func TestP122NumbersThatAreNone(t *testing.T) {
	far := bytes.Repeat([]byte{255}, 10)
	one := make([]byte, 32)
	for _, none := range [][]byte{{128, 0}, {129, 0}, {130, 0}, {129, 128, 0}, far, bytes.Repeat([]byte{128}, 10)} {
		for _, b := range [][]byte{
			join([]byte{1}, none, []byte("x")),
			join([]byte{2}, none, []byte{1}, one),
			join([]byte{2, 1}, none, one),
			join([]byte{3}, none, []byte{1, 'a', 0}, one),
			join([]byte{3, 1}, none, []byte{'a', 0}, one),
			join([]byte{3, 2, 1, 'a', 0}, one, none, []byte{'b', 0}, one),
			join([]byte{4}, none, one, []byte{0}),
			join([]byte{4, 1}, one, none, []byte{'l'}),
		} {
			refused(t, b, api.ErrForm)
		}
	}
}

func TestP122BoolsThatAreNone(t *testing.T) {
	for c := range 256 {
		b := put(dir(entries("a", "b")...))
		for _, at := range []int{4, 4 + 35} {
			if c > 1 {
				b := bytes.Clone(b)
				b[at] = byte(c)
				refused(t, b, api.ErrForm)
				// Told where it stands.
				refused(t, b[:at+1], api.ErrForm)
				refused(t, append(b, 0), api.ErrForm)
			}
		}
	}
}

func TestP122Left(t *testing.T) {
	for _, x := range few() {
		for _, more := range [][]byte{{0}, {1}, {128}, {255, 255, 255}, {1, 'x', 0}, put(x)} {
			refused(t, append(put(x), more...), api.ErrLeft)
		}
	}
	// Ahead of what Check refuses.
	for _, x := range []objects.Object{list(1), list(0, id(1)), list(mostSize+1, id(1)), list(math.MaxUint64), dir(entries("")...), dir(entries("b", "a")...), dir(entries("a/b")...), dir(entries(".")...)} {
		refused(t, put(x), api.ErrForm)
		refused(t, append(put(x), 0), api.ErrLeft)
	}
}

// Bytes that are longer than may be, whether they are there or not.
func TestP122TooLong(t *testing.T) {
	one := make([]byte, 32)
	for _, n := range []uint64{mostBytes + 1, mostBytes + 2, 1 << 16, 1 << 31, 1 << 32, 1<<32 + 1, 1 << 63, math.MaxUint64} {
		refused(t, append([]byte{1}, uint(n)...), api.ErrBig)
		if n < 1<<20 {
			refused(t, append([]byte{1}, row(make([]byte, n))...), api.ErrBig)
			refused(t, append(append([]byte{1}, row(make([]byte, n))...), 0), api.ErrBig)
		}
	}
	for _, n := range []uint64{256, 257, 511, 512, mostBytes, 1 << 31, 1 << 32, 1<<32 + 1, 1 << 63, math.MaxUint64} {
		refused(t, append([]byte{3, 1}, uint(n)...), api.ErrBig)
		refused(t, join([]byte{3, 2, 1, 'a', 0}, one, uint(n)), api.ErrBig)
		refused(t, join([]byte{4, 1}, one, uint(n)), api.ErrBig)
		if n < 1<<20 {
			long := bytes.Repeat([]byte("n"), int(n))
			refused(t, join([]byte{3, 1}, row(long), []byte{0}, one), api.ErrBig)
			refused(t, join([]byte{4, 1}, one, row(long)), api.ErrBig)
			refused(t, join([]byte{4, 1}, one, row(long), []byte{0}), api.ErrBig)
		}
	}
	// As long as may be they are read.
	refused(t, append([]byte{1}, row(make([]byte, mostBytes))[:mostBytes]...), api.ErrShort)
	refused(t, join([]byte{3, 1}, row(bytes.Repeat([]byte("n"), 255)), []byte{2}), api.ErrForm)
	refused(t, join([]byte{4, 1}, one, row(make([]byte, 255)), []byte{0}), api.ErrLeft)
}

// It is told as soon as the number is read, whatever follows.
func TestP122TooMany(t *testing.T) {
	one := make([]byte, 32)
	for _, more := range [][]byte{nil, {0}, {128, 0}, {1, 'a', 0}, {255}, bytes.Repeat([]byte{255}, 10), uint(256), make([]byte, 33*1100)} {
		for _, n := range []uint64{mostIds + 1, mostIds + 2, 1024, 1 << 16, 1 << 31, 1 << 32, 1<<32 + 1, 1 << 63, math.MaxUint64} {
			for _, size := range []uint64{0, 1, mostSize, mostSize + 1, math.MaxUint64} {
				refused(t, join([]byte{2}, uint(size), uint(n), more), api.ErrForm)
			}
		}
		for _, n := range []uint64{mostEntries + 1, mostEntries + 2, 512, mostIds, 1 << 16, 1 << 31, 1 << 32, 1<<32 + 1, 1 << 63, math.MaxUint64} {
			refused(t, join([]byte{3}, uint(n), more), api.ErrForm)
		}
	}
	refused(t, put(list(1, make([]api.Id, mostIds+1)...)), api.ErrForm)
	refused(t, put(list(1, make([]api.Id, mostIds+1)...))[:32000], api.ErrForm)
	refused(t, append(put(list(1, make([]api.Id, mostIds+1)...)), 7), api.ErrForm)
	refused(t, put(dir(many(mostEntries+1)...)), api.ErrForm)
	refused(t, append(put(dir(many(mostEntries+1)...)), 7), api.ErrForm)
	// As many as may be are read.
	refused(t, join([]byte{2, 1}, uint(mostIds), one), api.ErrShort)
	refused(t, append(put(list(1, make([]api.Id, mostIds)...)), 7), api.ErrLeft)
	refused(t, join([]byte{3}, uint(mostEntries), uint(256)), api.ErrBig)
	refused(t, append(put(dir(many(mostEntries)...)), 7), api.ErrLeft)
}

// What Check refuses is ErrForm.
func TestP122NoObjects(t *testing.T) {
	for _, x := range []objects.Object{
		list(1), list(2), list(mostSize), list(mostSize + 1), list(math.MaxUint64), list(0, id(1)), list(0, ids(mostIds)...), list(mostSize+1, id(1)), list(mostSize+2, ids(mostIds)...), list(1<<32+1, id(1)), list(math.MaxUint64, id(1)),
		dir(entries("")...), dir(entries(".")...), dir(entries("..")...), dir(entries("/")...), dir(entries("a/b")...), dir(entries("a/")...), dir(entries("a\x00")...), dir(entries("\x1f")...), dir(entries("b", "a")...), dir(entries("a", "a")...), dir(entries("a", "b", "")...), dir(entries("", "a")...), dir(entries("a", "c", "b")...),
	} {
		if may(x) {
			t.Fatal("it may be", short(x))
		}
		refused(t, put(x), api.ErrForm)
	}
	l := many(mostEntries)
	l[mostEntries-1].Name = l[mostEntries-2].Name
	refused(t, put(dir(l...)), api.ErrForm)
}

// The first fault that is read is told, those of Check last.
func TestP122FirstFault(t *testing.T) {
	one := make([]byte, 32)
	cut := func(x objects.Object) []byte { b := put(x); return b[:len(b)-1] }
	for _, x := range []objects.Object{list(0, id(1)), list(mostSize+1, id(1), id(2)), list(math.MaxUint64, ids(mostIds)...), dir(entries("b", "a")...), dir(entries("", "a", "b")...), dir(entries("a/b")...)} {
		refused(t, cut(x), api.ErrShort)
	}
	refused(t, join([]byte{3, 2, 0, 0}, one, uint(256)), api.ErrBig)
	refused(t, join([]byte{3, 2, 0, 0}, one, []byte{128, 0}), api.ErrForm)
	refused(t, join([]byte{3, 2, 1, '/', 2}, one, uint(256)), api.ErrForm)
	refused(t, join([]byte{3, 2}, uint(256), []byte{128, 0}), api.ErrBig)
	refused(t, []byte{2, 128}, api.ErrShort)
	refused(t, append([]byte{2, 128, 0}, uint(mostIds+1)...), api.ErrForm)
	refused(t, append([]byte{2, 255}, uint(mostIds+1)...), api.ErrShort)
	refused(t, append([]byte{5}, uint(mostBytes+1)...), api.ErrForm)
}

// --- P12.3: Below

func TestP123Below(t *testing.T) {
	a, b, c := id(1), id(2), id(3)
	for _, x := range []struct {
		x    objects.Object
		want []api.Id
	}{
		{objects.Object{}, nil},
		{piece(nil), nil},
		{piece([]byte("x")), nil},
		{list(0), nil},
		{list(1, a), ids(2)[1:]},
		{list(3, c, a, b), []api.Id{c, a, b}},
		{list(3, a, b, a, api.Id{}, api.Id{}, b), []api.Id{a, b, a, {}, {}, b}},
		{list(mostSize, ids(mostIds)...), ids(mostIds)},
		{dir(), nil},
		{dir(objects.Entry{Name: "a", Id: b}), []api.Id{b}},
		{dir(objects.Entry{Name: "a", Id: c}, objects.Entry{Name: "b", Dir: true, Id: a}, objects.Entry{Name: "c", Id: b}), []api.Id{c, a, b}},
		{dir(objects.Entry{Name: "a", Id: a}, objects.Entry{Name: "b", Dir: true, Id: a}, objects.Entry{Name: "c"}), []api.Id{a, a, {}}},
		{snap(1, c, "label"), []api.Id{c}},
		{snap(0, api.Id{}, ""), []api.Id{{}}},
	} {
		if got := objects.Below(x.x); !slices.Equal(got, x.want) {
			t.Errorf("%s: %v", short(x.x), got)
		}
	}
	l := many(mostEntries)
	got := objects.Below(dir(l...))
	if !slices.EqualFunc(got, l, func(x api.Id, e objects.Entry) bool { return x == e.Id }) {
		t.Error(len(got))
	}
}

// Whatever the Kind is, and whether it may be or not.
func TestP123WhateverTheKindIs(t *testing.T) {
	for kind := range 256 {
		x := objects.Object{Kind: byte(kind), Bytes: []byte("x"), Size: math.MaxUint64, Ids: []api.Id{id(9), id(8), {}, id(9)}, Entries: entries("b", "a", "", "a/b"), Label: strings.Repeat("l", 300)}
		want := []api.Id{id(9), id(8), {}, id(9), id(100), id(101), id(102), id(103)}
		if got := objects.Below(x); !slices.Equal(got, want) {
			t.Error(kind, got)
		}
		x.Ids = nil
		if got := objects.Below(x); !slices.Equal(got, want[4:]) {
			t.Error(kind, got)
		}
		x.Entries = nil
		if got := objects.Below(x); len(got) != 0 {
			t.Error(kind, got)
		}
	}
	x := objects.Object{Ids: ids(3000), Entries: many(2000)}
	got := objects.Below(x)
	if len(got) != 5000 || got[2999] != id(2999) || got[3000] != id(100) || got[4999] != id(2099) {
		t.Error(len(got))
	}
}

func TestP123InNewMemory(t *testing.T) {
	room := ids(40)
	x := objects.Object{Kind: 2, Size: 1, Ids: room[:5], Entries: entries("a", "b", "c")}
	for range 3 {
		one, other := objects.Below(x), objects.Below(x)
		clear(one[:cap(one)])
		clear(append(one, id(1), id(2)))
		if !slices.Equal(room, ids(40)) || !slices.Equal(x.Entries, entries("a", "b", "c")) {
			t.Fatal("what is told stands within what was handed in")
		}
		if !slices.Equal(other, append(ids(5), id(100), id(101), id(102))) {
			t.Fatal("two answers share memory")
		}
	}
	got := objects.Below(list(1, room...))
	clear(room)
	if !slices.Equal(got, ids(40)) {
		t.Error("what is told changes with what was handed in")
	}
}

// --- P12.4: what follows

func TestP124PutIsGot(t *testing.T) {
	r := rand.New(rand.NewSource(124))
	all := few()
	for range 2000 {
		all = append(all, some(r, byte(1+r.Intn(4))))
	}
	for _, x := range all {
		b, err := objects.Put(x)
		if err != api.OK {
			t.Fatal(short(x), err)
		}
		got, err := objects.Get(b)
		if err != api.OK || !same(got, x) {
			t.Fatal(short(x), err, short(got))
		}
		if !slices.Equal(objects.Below(got), objects.Below(x)) {
			t.Fatal(short(x), "names others")
		}
		again, err := objects.Put(got)
		if err != api.OK || !bytes.Equal(again, b) {
			t.Fatal(short(x), err, len(again))
		}
	}
}

// Bytes that are changed anywhere are refused, or those of another object, and of no other bytes.
func TestP124OneRowOfBytesAnObject(t *testing.T) {
	r := rand.New(rand.NewSource(1244))
	taken, kinds := 0, map[byte]int{}
	for range 8000 {
		b := put(some(r, byte(1+r.Intn(4))))
		was := bytes.Clone(b)
		for range 1 + r.Intn(2) {
			switch at := r.Intn(len(b)); r.Intn(3) {
			case 0:
				b[at] ^= 1 << r.Intn(8)
			case 1:
				b = slices.Insert(b, at, byte(r.Intn(256)))
			case 2:
				b = append(slices.Delete(b, at, at+1), 0)
			}
		}
		x, err := objects.Get(b)
		if err != api.OK {
			if !reflect.DeepEqual(x, objects.Object{}) {
				t.Fatal("an object beside an error")
			}
			continue
		}
		taken++
		kinds[x.Kind]++
		if objects.Check(x) != api.OK || !may(x) {
			t.Fatal("what is got may not be", short(x))
		}
		if again, err := objects.Put(x); err != api.OK || !bytes.Equal(again, b) {
			t.Fatalf("%v is read as %v is", b, again)
		}
		if other, _ := objects.Get(was); same(x, other) != bytes.Equal(was, b) {
			t.Fatalf("%v is read as %v is", b, was)
		}
	}
	if taken < 1000 || len(kinds) != 4 {
		t.Error("too few are taken:", taken, kinds)
	}
}

// All short rows of bytes: each that is taken is what is put again.
func TestP124AllShortRows(t *testing.T) {
	told := map[byte]int{}
	var all func(b []byte, left int)
	all = func(b []byte, left int) {
		if x, err := objects.Get(b); err == api.OK {
			told[x.Kind]++
			if again, err := objects.Put(x); err != api.OK || !bytes.Equal(again, b) {
				t.Fatalf("%v is read as %v is", b, again)
			}
		}
		if left == 0 {
			return
		}
		for _, c := range []byte{0, 1, 2, 3, 4, 5, 127, 128, 129, 255} {
			all(append(bytes.Clone(b), c), left-1)
		}
	}
	all(nil, 5)
	// Pieces of none to three bytes, the List and the Dir of nothing.
	if told[1] != 1+10+100+1000 || told[2] != 1 || told[3] != 1 || len(told) != 3 {
		t.Error(told)
	}
}

// Two objects that are unlike have unlike bytes.
func TestP124UnlikeBytes(t *testing.T) {
	r := rand.New(rand.NewSource(12444))
	seen := map[string]objects.Object{}
	all := few()
	for range 3000 {
		all = append(all, some(r, byte(1+r.Intn(4))))
	}
	for _, x := range all {
		b, _ := objects.Put(x)
		if other, is := seen[string(b)]; is && !same(x, other) {
			t.Fatal(short(x), "and", short(other), "have the same bytes")
		}
		seen[string(b)] = x
	}
}

// The names in a directory, of trees as chapter 11 tells them, make a Dir that may be, once they rise.
func TestP124NamesOfTrees(t *testing.T) {
	tree := []files.File{{Path: "a!"}, {Path: "a/b"}, {Path: "a/c/d"}, {Path: "a0"}, {Path: "e"}}
	found, dirs := files.Under(tree, "")
	var l []objects.Entry
	for i, s := range found {
		l = append(l, objects.Entry{Name: s, Dir: dirs[i], Id: id(i)})
	}
	checks(t, dir(l...), api.ErrArg)
	slices.SortFunc(l, func(x, y objects.Entry) int { return strings.Compare(x.Name, y.Name) })
	takes(t, dir(l...))
}

// --- What is handed in stays, and what is told is in memory of its own

func TestStays(t *testing.T) {
	r := rand.New(rand.NewSource(12))
	for range 300 {
		x := some(r, byte(1+r.Intn(4)))
		if r.Intn(3) == 0 {
			x = objects.Object{Kind: x.Kind, Bytes: text(9, 1), Size: 7, Ids: ids(4), Entries: entries("b", "a", ""), Label: "l"}
		}
		// There is room behind each list, in which nothing changes either.
		bytesRoom, idsRoom, entriesRoom := append(bytes.Clone(x.Bytes), 1, 2, 3), append(slices.Clone(x.Ids), id(7), id(8)), append(slices.Clone(x.Entries), entries("y", "z")...)
		x.Bytes, x.Ids, x.Entries = bytesRoom[:len(x.Bytes)], idsRoom[:len(x.Ids)], entriesRoom[:len(x.Entries)]
		was := clone(x)
		wasBytes, wasIds, wasEntries := bytes.Clone(bytesRoom), slices.Clone(idsRoom), slices.Clone(entriesRoom)
		for range 2 {
			objects.Check(x)
			objects.Put(x)
			objects.Below(x)
		}
		if !same(x, was) || !bytes.Equal(bytesRoom, wasBytes) || !slices.Equal(idsRoom, wasIds) || !slices.Equal(entriesRoom, wasEntries) {
			t.Fatal("an object that is handed in is changed")
		}
		b := append(put(some(r, x.Kind)), 1, 2, 3)
		row := bytes.Clone(b)
		for _, n := range []int{0, len(b) / 2, len(b) - 3, len(b)} {
			objects.Get(b[:n])
		}
		if !bytes.Equal(b, row) {
			t.Fatal("bytes that are handed in are changed")
		}
	}
}

func TestNotKept(t *testing.T) {
	for _, x := range few() {
		want := put(x)
		x = clone(x)
		b, _ := objects.Put(x)
		clear(x.Bytes)
		clear(x.Ids)
		clear(x.Entries)
		if !bytes.Equal(b, want) {
			t.Error("what is put changes with what was handed in:", short(x))
		}
		got, err := objects.Get(b)
		clear(b)
		if err != api.OK || !bytes.Equal(put(got), want) {
			t.Error("what is got changes with the bytes it is of:", short(x))
		}
	}
}

func TestAnswersInNewMemory(t *testing.T) {
	for _, x := range few() {
		want := put(x)
		for range 3 {
			one, _ := objects.Put(x)
			other, _ := objects.Put(x)
			clear(one[:cap(one)])
			if !bytes.Equal(other, want) || !bytes.Equal(put(x), want) {
				t.Error("two answers of Put share memory:", short(x))
			}
			a, _ := objects.Get(want)
			b, _ := objects.Get(want)
			clear(a.Bytes[:cap(a.Bytes)])
			clear(a.Ids[:cap(a.Ids)])
			clear(a.Entries[:cap(a.Entries)])
			if !bytes.Equal(put(b), want) || !bytes.Equal(want, put(x)) {
				t.Error("two answers of Get share memory:", short(x))
			}
		}
	}
}

// The same calls have the same answers, whatever was called between.
func TestNoStateOfItsOwn(t *testing.T) {
	for range 3 {
		for _, x := range few() {
			checks(t, x, api.OK)
			gets(t, put(x), x)
			checks(t, list(1), api.ErrArg)
			checks(t, objects.Object{}, api.ErrArg)
			refused(t, []byte{1, 3, 'x'}, api.ErrShort)
			refused(t, []byte{9}, api.ErrForm)
			if got := objects.Below(snap(1, id(5), "")); !slices.Equal(got, []api.Id{id(5)}) {
				t.Error(got)
			}
		}
	}
}
