package files_test

import (
	"bytes"
	"encoding/binary"
	"math/rand"
	"regexp"
	"slices"
	"strconv"
	"strings"
	"testing"
	"unsafe"

	"bailee/api"
	"bailee/files"
)

// Limits, as the words tell them.
const (
	mostBytes = 1048576
	mostOfAll = 16777216
	mostFiles = 65536
)

// of is a tree of paths, each with bytes of its own.
func of(paths ...string) []files.File {
	var l []files.File
	for i, p := range paths {
		l = append(l, files.File{Path: p, Bytes: text(i%7, i)})
	}
	return l
}

// text are so many bytes, unlike those of other seeds.
func text(n, seed int) []byte {
	b := make([]byte, n)
	for i := range b {
		b[i] = byte(i*7 + seed*31)
	}
	return b
}

// sized are files of so many bytes, which share memory.
func sized(sizes ...int) []files.File {
	b := make([]byte, slices.Max(append(sizes, 0)))
	var l []files.File
	for i, n := range sizes {
		l = append(l, files.File{Path: number(i), Bytes: b[:n]})
	}
	return l
}

// number is a name; those of greater numbers are above it.
func number(i int) string { return strconv.Itoa(1000000 + i) }

// many are so many files, without bytes.
func many(n int) []files.File {
	l := make([]files.File, n)
	for i := range l {
		l[i].Path = number(i)
	}
	return l
}

// uint is a number as codec's words tell it.
func uint(n int) []byte { return binary.AppendUvarint(nil, uint64(n)) }

// row is how many bytes there are, and them.
func row(b []byte) []byte { return append(uint(len(b)), b...) }

// put are the bytes of files, worked out from the words, whether they may be a tree or not.
func put(l []files.File) []byte {
	b := uint(len(l))
	for _, f := range l {
		b = append(b, row([]byte(f.Path))...)
		b = append(b, row(f.Bytes)...)
	}
	return b
}

// names of a path that may be: none is empty, "." or "..", and no byte is below 32.
var names = regexp.MustCompile(`^(?s:([^/.\x00-\x1f]|\.[^/.\x00-\x1f]|\.\.[^/\x00-\x1f])[^/\x00-\x1f]*)$`)

// path tells whether a path may be, worked out from the words.
func path(s string) bool {
	if len(s) < 1 || len(s) > 255 {
		return false
	}
	for _, name := range strings.Split(s, "/") {
		if !names.MatchString(name) {
			return false
		}
	}
	return true
}

// check is what Check tells, worked out from the words: each file is held against each one.
func check(l []files.File) api.Errno {
	for i, f := range l {
		if !path(f.Path) {
			return api.ErrArg
		}
		for _, g := range l[:i] {
			if bytes.Compare([]byte(g.Path), []byte(f.Path)) >= 0 {
				return api.ErrArg
			}
			if strings.HasPrefix(f.Path, g.Path+"/") {
				return api.ErrArg
			}
		}
	}
	all := 0
	for _, f := range l {
		if len(f.Bytes) > mostBytes {
			return api.ErrBig
		}
		all += len(f.Bytes)
	}
	if all > mostOfAll || len(l) > mostFiles {
		return api.ErrBig
	}
	return api.OK
}

// under is what Under tells of a tree, worked out from the words.
func under(l []files.File, dir string) ([]string, []bool) {
	var told []string
	var dirs []bool
	for _, f := range l {
		all := strings.Split(f.Path, "/")
		deep := 0
		if dir != "" {
			deep = 1 + strings.Count(dir, "/")
		}
		if len(all) <= deep || strings.Join(all[:deep], "/") != dir {
			continue
		}
		if !slices.Contains(told, all[deep]) {
			told = append(told, all[deep])
			dirs = append(dirs, len(all) > deep+1)
		}
	}
	return told, dirs
}

// pieces are names, some of them alike at the front, with bytes below and above that of the slash.
func pieces() []string {
	return []string{"a", "b", "a!", "a.", "a0", "ab", "a-b", " ", "...", ".a", "\xff", "é", "\x7f"}
}

// somePath is a path that may be.
func somePath(r *rand.Rand) string {
	l := make([]string, 1+r.Intn(4))
	for i := range l {
		l[i] = pieces()[r.Intn(len(pieces()))]
	}
	return strings.Join(l, "/")
}

// someTree is a tree of so many files at most.
func someTree(r *rand.Rand, n int) []files.File {
	var l []files.File
	for range n {
		f := files.File{Path: somePath(r), Bytes: text(r.Intn(200), r.Intn(256))}
		more := append(slices.Clone(l), f)
		slices.SortFunc(more, func(x, y files.File) int { return strings.Compare(x.Path, y.Path) })
		if check(more) == api.OK {
			l = more
		}
	}
	return l
}

// same tells whether two lists of files are one, in paths and bytes.
func same(a, b []files.File) bool { return bytes.Equal(put(a), put(b)) }

// clone are files in memory of their own.
func clone(l []files.File) []files.File {
	l = slices.Clone(l)
	for i := range l {
		l[i].Bytes = bytes.Clone(l[i].Bytes)
	}
	return l
}

// checks fails unless Check, and Put, tell this of files.
func checks(t *testing.T, l []files.File, want api.Errno) {
	t.Helper()
	if err := files.Check(l); err != want {
		t.Errorf("check of %d files: %d and not %d", len(l), err, want)
	}
	b, err := files.Put(l)
	if err != want || err != api.OK && b != nil {
		t.Errorf("put of %d files: %d and not %d, %d bytes", len(l), err, want, len(b))
	}
	if want == api.OK && !bytes.Equal(b, put(l)) {
		t.Errorf("put of %d files: %d bytes and not %d, or other ones", len(l), len(b), len(put(l)))
	}
}

// gets fails unless bytes are those of this tree.
func gets(t *testing.T, b []byte, want []files.File) {
	t.Helper()
	l, err := files.Get(b)
	if err != api.OK || !same(l, want) {
		t.Errorf("get of %d bytes: error %d, %d files and not %d, or other ones", len(b), err, len(l), len(want))
	}
}

// refused fails unless bytes are refused.
func refused(t *testing.T, b []byte, want api.Errno) {
	t.Helper()
	if l, err := files.Get(b); err != want || l != nil {
		t.Errorf("get of %d bytes: %d and not %d, %d files", len(b), err, want, len(l))
	}
}

// tells fails unless Under tells these names, of which directories end with a slash.
func tells(t *testing.T, l []files.File, dir string, want ...string) {
	t.Helper()
	told, dirs := files.Under(l, dir)
	if len(told) != len(dirs) {
		t.Fatalf("%d names, and of %d whether they are directories", len(told), len(dirs))
	}
	var got []string
	for i, name := range told {
		if dirs[i] {
			name += "/"
		}
		got = append(got, name)
	}
	if !slices.Equal(got, want) {
		t.Errorf("under %q: %q and not %q", dir, got, want)
	}
}

// --- P11.1: Path

func TestP111PathsThatMayBe(t *testing.T) {
	for _, s := range []string{
		"a", "a/b", "a/b/c", " ", " / ", "...", "..../....", ".a", "a.", "..a", "a..", ".a.", "a/.b", "a/b..", ". ", " .", ".. ", "-", "~", "*", "\\", "a\\..", "C:", "\"", "\x7f", "\x80", "\xff", "\xff/\xfe", "é/世界", "a/a/a",
		strings.Repeat("a", 254), strings.Repeat("a", 255), strings.Repeat("a/", 127) + "a", strings.Repeat("\xff", 255), strings.Repeat("世", 85), strings.Repeat(".", 255),
	} {
		if !files.Path(s) || !path(s) {
			t.Errorf("%q may not be", s)
		}
	}
}

func TestP111PathsThatMayNotBe(t *testing.T) {
	for _, s := range []string{
		"", "/", "//", "///", ".", "..", "./", "../", "/.", "/..", "/a", "a/", "//a", "a//", "a//b", "./a", "../a", "a/.", "a/..", "a/./b", "a/../b", "a/b/..", "a/b/.", "a/b/", "a/../..", "././.",
		"\x00", "a\x00", "\x00a", "a\x00b", "a/\x00", "\x00/a", "a\nb", "a\n", "\t", "a/b\x1f", "\x1f/b", "a/\x01/b", ".\x00", "..\n", ".\x1f/a",
		strings.Repeat("a", 256), strings.Repeat("a", 257), strings.Repeat("a", 1000), strings.Repeat("a", 65536), strings.Repeat("a/", 127) + "ab", strings.Repeat("a/", 128), strings.Repeat("a/", 1000) + "a", strings.Repeat("世", 86), strings.Repeat("a", 255) + "/",
	} {
		if files.Path(s) || path(s) {
			t.Errorf("%q may be", s)
		}
	}
}

// Each byte, at each place of a path.
func TestP111PathOfEachByte(t *testing.T) {
	for c := range 256 {
		s := string([]byte{byte(c)})
		for _, x := range []struct {
			path string
			may  bool
		}{
			{s, c >= 32 && c != '.' && c != '/'},
			{"a" + s, c >= 32 && c != '/'},
			{s + "a", c >= 32 && c != '/'},
			{"a" + s + "b", c >= 32},
			{"a/" + s, c >= 32 && c != '.' && c != '/'},
			{s + "/a", c >= 32 && c != '.' && c != '/'},
			{"a/" + s + "/b", c >= 32 && c != '.' && c != '/'},
			{"." + s, c >= 32 && c != '.' && c != '/'},
			{"a/." + s + "/b", c >= 32 && c != '.' && c != '/'},
			{".." + s, c >= 32 && c != '/'},
			{strings.Repeat("x", 254) + s, c >= 32 && c != '/'},
			{strings.Repeat("x", 255) + s, false},
		} {
			if files.Path(x.path) != x.may {
				t.Errorf("%q: not %v", x.path, x.may)
			}
		}
	}
}

// All short texts of bytes that paths are told by.
func TestP111PathOfAllShortTexts(t *testing.T) {
	var all func(s string, left int)
	all = func(s string, left int) {
		if files.Path(s) != path(s) {
			t.Fatalf("%q: not %v", s, path(s))
		}
		if left == 0 {
			return
		}
		for _, c := range []byte("/.a \x1f\xff") {
			all(s+string([]byte{c}), left-1)
		}
	}
	all("", 7)
}

// --- P11.1: Check

func TestP111TreesThatMayBe(t *testing.T) {
	for _, l := range [][]files.File{
		nil, {}, of("a"), of("a", "b"), of("a/b", "a/c/d", "e"), of("a", "aa"), of("a", "a!", "ab/c"), of("a!", "a/b", "a0"), of("a-b", "a/b", "ab"), of("a!/b", "a/b"),
		of("a", "a.", "a.b/c"), of("a b/c", "a/b/c", "ab/c"), of("A", "a"), of("Z", "a/b"), of("a", "b/a", "b/b/a"), of(" ", "\x7f", "\x80", "\xff"), of("a/b/c", "a/b0", "a/c"), of("z", "é", "世"),
		of("a/a/a/a", "a/a/a/b", "a/a/b", "a/b", "b"), of("a", "a!", "a!!", "a!!!/b"), of("a\x7f", "a\xff/a"),
		of(strings.Repeat("a", 254), strings.Repeat("a", 255)), of(strings.Repeat("a/", 127) + "a"),
	} {
		if check(l) != api.OK {
			t.Fatal("the test's own telling says otherwise")
		}
		checks(t, l, api.OK)
	}
}

func TestP111PathsThatNoTreeHas(t *testing.T) {
	for _, bad := range []string{"", "/", ".", "..", "/a", "a/", "a//b", "a/../b", "a\x00", "\x1f", "b/.", strings.Repeat("c", 256), "\xff/\n"} {
		checks(t, of(bad), api.ErrArg)
		for at := range 4 {
			var l []files.File
			for i, p := range []string{"a", "b", "c"} {
				if i == at {
					l = append(l, files.File{Path: bad})
				}
				l = append(l, files.File{Path: p})
			}
			if at == 3 {
				l = append(l, files.File{Path: bad})
			}
			checks(t, l, api.ErrArg)
		}
		// In its place, too: all that is wrong is the path itself.
		l := append(of("B", "b", "d"), files.File{Path: bad})
		slices.SortFunc(l, func(x, y files.File) int { return strings.Compare(x.Path, y.Path) })
		checks(t, l, api.ErrArg)
	}
}

func TestP111PathsThatDoNotRise(t *testing.T) {
	for _, l := range [][]files.File{
		of("b", "a"), of("a", "a"), of("a", "b", "a"), of("a", "c", "b"), of("a", "b", "b"), of("a", "a", "b"), of("aa", "a"), of("ab", "b", "aa"), of("a", "A"), of("a/b", "a/a"), of("a/b", "a/b"),
		of("a/b", "a!"), of("a0", "a/b"), of("a/b", "a-b"), of("\xff", "a"), of("\x80", "\x7f"), of("世", "é"), of("a", "b", "c", "d", "c0", "e"), of("a", "a!", "a"), of("10", "9", "8"),
		of(strings.Repeat("a", 255), strings.Repeat("a", 254)), of(strings.Repeat("a", 255), strings.Repeat("a", 255)),
	} {
		checks(t, l, api.ErrArg)
	}
}

// A file is in the way, just ahead or with others between.
func TestP111FilesInTheWay(t *testing.T) {
	for _, l := range [][]files.File{
		of("a", "a/b"), of("a", "a/b/c"), of("a/b", "a/b/c"), of("a/b", "a/b/c/d"), of("0", "a", "a/b", "b"), of("a", "a!", "a/b"), of("a", "a!/b", "a/b"), of("a", "a b", "a!c", "a-", "a.b", "a/b"), of("a", "a!", "a!!", "a!!/c"), of("a", "a!", "a!!", "a!/c"), of("a", "a!", "a!!", "a/c"),
		of("a", "a!", "a!!", "a!!c", "a!b", "a/c"), of("x/a", "x/a!", "x/a!/b"), of("x/a", "x/a!", "x/a/b"), of("a/b", "a/b c/d", "a/b/c"), of("a", "a.", "a..", "a.../b", "a/b"), of("\xff", "\xff/a"), of("...", ".../a"), of(" ", " /a"),
		of(strings.Repeat("a/", 126)+"a", strings.Repeat("a/", 127)+"a"), of("a", strings.Repeat("a/", 127)+"a"), of(strings.Repeat("a", 253), strings.Repeat("a", 253)+"/b"),
	} {
		checks(t, l, api.ErrArg)
	}
}

// All lists of up to four of these paths.
func TestP111CheckOfAllShortLists(t *testing.T) {
	paths := []string{"a", "a!", "a!/b", "a/", "a/!", "a/b", "a/b!", "a/b/c", "a0", "b"}
	var all func(l []files.File)
	all = func(l []files.File) {
		if err, want := files.Check(l), check(l); err != want {
			t.Fatalf("%v: %d and not %d", l, err, want)
		}
		if len(l) == 4 {
			return
		}
		for _, p := range paths {
			all(append(slices.Clone(l), files.File{Path: p}))
		}
	}
	all(nil)
}

// Lists that rise, whatever stands in the way in them.
func TestP111CheckOfSomeLists(t *testing.T) {
	r := rand.New(rand.NewSource(111))
	told := map[api.Errno]int{}
	for range 3000 {
		var paths []string
		for range 1 + r.Intn(12) {
			paths = append(paths, somePath(r))
		}
		slices.Sort(paths)
		l := of(slices.Compact(paths)...)
		told[check(l)]++
		checks(t, l, check(l))
	}
	if told[api.OK] < 500 || told[api.ErrArg] < 500 {
		t.Error("too few of a kind:", told)
	}
}

func TestP111Sizes(t *testing.T) {
	for _, n := range []int{0, 1, mostBytes - 1, mostBytes} {
		checks(t, sized(n), api.OK)
		checks(t, sized(3, n, 0), api.OK)
	}
	for _, n := range []int{mostBytes + 1, mostBytes + 2, 2 * mostBytes, mostOfAll, mostOfAll + 1} {
		checks(t, sized(n), api.ErrBig)
		checks(t, sized(n, 1, 1), api.ErrBig)
		checks(t, sized(1, n, 1), api.ErrBig)
		checks(t, sized(1, 1, n), api.ErrBig)
	}
}

func TestP111AllSizes(t *testing.T) {
	full := slices.Repeat([]int{mostBytes}, 16)
	checks(t, sized(full...), api.OK)
	checks(t, sized(append(full, 0, 0)...), api.OK)
	checks(t, sized(append(full, 1)...), api.ErrBig)
	checks(t, sized(append([]int{1}, full...)...), api.ErrBig)
	checks(t, sized(append(full, mostBytes)...), api.ErrBig)
	checks(t, sized(append(full[:15:15], mostBytes-1, 1)...), api.OK)
	checks(t, sized(append(full[:15:15], mostBytes-1, 1, 1)...), api.ErrBig)
	checks(t, sized(slices.Repeat([]int{1 << 20}, 40)...), api.ErrBig)
	checks(t, sized(slices.Repeat([]int{256}, 65536)...), api.OK)
	checks(t, sized(append(slices.Repeat([]int{256}, 65535), 257)...), api.ErrBig)
	// Paths don't count.
	l := sized(full...)
	for i := range l {
		l[i].Path = strings.Repeat(number(i), 36)
	}
	checks(t, l, api.OK)
}

func TestP111Counts(t *testing.T) {
	checks(t, many(mostFiles-1), api.OK)
	checks(t, many(mostFiles), api.OK)
	checks(t, many(mostFiles+1), api.ErrBig)
	checks(t, many(3*mostFiles), api.ErrBig)
}

// What paths are wrong is told ahead of what is too much.
func TestP111ErrArgFirst(t *testing.T) {
	for _, bad := range []string{"", "0", number(3), number(3) + "/a", "z/"} {
		l := append(sized(mostBytes+1, 1, 1, 1), files.File{Path: bad})
		checks(t, l, api.ErrArg)
		l = append(sized(slices.Repeat([]int{mostBytes}, 17)...), files.File{Path: "2"}, files.File{Path: bad})
		checks(t, l, api.ErrArg)
	}
	l := many(mostFiles + 1)
	l[mostFiles].Path = l[mostFiles-1].Path
	checks(t, l, api.ErrArg)
	l[mostFiles].Path = l[mostFiles-1].Path + "/a"
	checks(t, l, api.ErrArg)
	l[mostFiles].Path += "/"
	checks(t, l, api.ErrArg)
	l = many(mostFiles + 1)
	l[0].Path = ""
	checks(t, l, api.ErrArg)
}

// --- P11.1: Same

func TestP111Same(t *testing.T) {
	x := func(path, b string) files.File { return files.File{Path: path, Bytes: []byte(b)} }
	for _, l := range []struct {
		a, b []files.File
		same bool
	}{
		{nil, nil, true},
		{nil, []files.File{}, true},
		{nil, []files.File{{}}, false},
		{[]files.File{{}}, []files.File{{}}, true},
		{[]files.File{{Path: "a"}}, []files.File{x("a", "")}, true},
		{[]files.File{x("a", "1")}, []files.File{x("a", "1")}, true},
		{[]files.File{x("a", "1")}, []files.File{x("a", "2")}, false},
		{[]files.File{x("a", "1")}, []files.File{x("b", "1")}, false},
		{[]files.File{x("a", "1")}, []files.File{x("A", "1")}, false},
		{[]files.File{x("a", "1")}, []files.File{x("a", "12")}, false},
		{[]files.File{x("a", "1")}, []files.File{x("a1", "")}, false},
		{[]files.File{x("a", "1")}, []files.File{x("a", "")}, false},
		{[]files.File{x("a", "1")}, []files.File{x("a", "1"), x("b", "")}, false},
		{[]files.File{x("a", "1"), x("b", "2")}, []files.File{x("a", "1"), x("b", "2")}, true},
		{[]files.File{x("a", "1"), x("b", "2")}, []files.File{x("b", "2"), x("a", "1")}, false},
		{[]files.File{x("a", "1"), x("b", "2")}, []files.File{x("a", "2"), x("b", "1")}, false},
		{[]files.File{x("a", "1"), x("b", "2")}, []files.File{x("a", "1"), x("b", "3")}, false},
		{[]files.File{x("a", "1"), x("b", "2")}, []files.File{x("a", "1"), x("c", "2")}, false},
		{[]files.File{x("/", "1"), x("", "2")}, []files.File{x("/", "1"), x("", "2")}, true},
		{[]files.File{x("a", "1"), x("a", "1")}, []files.File{x("a", "1")}, false},
		{many(mostFiles + 5), many(mostFiles + 5), true},
		{many(mostFiles + 5), many(mostFiles + 4), false},
		{sized(mostBytes + 5), sized(mostBytes + 5), true},
		{sized(mostBytes + 5), sized(mostBytes + 4), false},
	} {
		if files.Same(l.a, l.b) != l.same || files.Same(l.b, l.a) != l.same || !files.Same(l.a, l.a) || !files.Same(l.b, l.b) {
			t.Errorf("%d files and %d: not %v", len(l.a), len(l.b), l.same)
		}
	}
}

// One change of a tree, of any kind, is seen.
func TestP111SameOfOneChange(t *testing.T) {
	r := rand.New(rand.NewSource(1111))
	for range 500 {
		a := append(someTree(r, 10), files.File{Path: "\xff\xff", Bytes: text(3, 3)})
		b := clone(a)
		if !files.Same(a, b) {
			t.Fatal("a copy isn't the same")
		}
		at := r.Intn(len(b))
		switch f := &b[at]; r.Intn(4) {
		case 0:
			f.Path += "x"
		case 1:
			f.Bytes = append(f.Bytes, 0)
		case 2:
			b = slices.Delete(b, at, at+1)
		case 3:
			if len(f.Bytes) == 0 {
				f.Bytes = []byte{1}
				break
			}
			f.Bytes[r.Intn(len(f.Bytes))] ^= 1 << r.Intn(8)
		}
		if files.Same(a, b) || files.Same(b, a) {
			t.Fatal("a change isn't seen")
		}
	}
}

// --- P11.2: Put

func TestP112PutByteByByte(t *testing.T) {
	long := strings.Repeat("p", 200)
	for _, x := range []struct {
		l    []files.File
		want []byte
	}{
		{nil, []byte{0}},
		{[]files.File{}, []byte{0}},
		{[]files.File{{Path: "a"}}, []byte{1, 1, 'a', 0}},
		{[]files.File{{Path: "a", Bytes: []byte{}}}, []byte{1, 1, 'a', 0}},
		{[]files.File{{Path: "a/b", Bytes: []byte("xy")}}, []byte{1, 3, 'a', '/', 'b', 2, 'x', 'y'}},
		{[]files.File{{Path: "a/b", Bytes: []byte{0}}, {Path: "e", Bytes: []byte{255, 1}}}, []byte{2, 3, 'a', '/', 'b', 1, 0, 1, 'e', 2, 255, 1}},
		{[]files.File{{Path: long, Bytes: make([]byte, 3)}}, append(append([]byte{1, 200, 1}, long...), 3, 0, 0, 0)},
		{[]files.File{{Path: "a", Bytes: make([]byte, 300)}}, append([]byte{1, 1, 'a', 172, 2}, make([]byte, 300)...)},
	} {
		b, err := files.Put(x.l)
		if err != api.OK || !bytes.Equal(b, x.want) {
			t.Errorf("%d, %v and not %v", err, b, x.want)
		}
		gets(t, x.want, x.l)
	}
}

func TestP112PutOfSomeTrees(t *testing.T) {
	r := rand.New(rand.NewSource(112))
	for range 300 {
		checks(t, someTree(r, r.Intn(30)), api.OK)
	}
}

// --- P11.2: Get

func TestP112GetOfTrees(t *testing.T) {
	for _, l := range [][]files.File{nil, of("a"), of("a/b", "a/c/d", "e"), of("a!", "a/b", "a0"), of(strings.Repeat("a", 255)), sized(mostBytes), sized(0, mostBytes, 1), many(mostFiles), sized(slices.Repeat([]int{mostBytes}, 16)...)} {
		gets(t, put(l), l)
	}
}

// Each front of a tree's bytes ends too early.
func TestP112Short(t *testing.T) {
	refused(t, nil, api.ErrShort)
	refused(t, []byte{}, api.ErrShort)
	for _, l := range [][]files.File{of("a"), of("a/b", "a/c/d", "e"), sized(0), sized(300, 2, 130), of(strings.Repeat("a", 255), "b")} {
		b := put(l)
		for n := range b {
			refused(t, b[:n], api.ErrShort)
		}
	}
	refused(t, uint(mostFiles), api.ErrShort)
	refused(t, []byte{1, 1}, api.ErrShort)
	refused(t, []byte{1, 1, 'a', 1}, api.ErrShort)
	refused(t, append([]byte{1, 1, 'a'}, uint(mostBytes)...), api.ErrShort)
	refused(t, append([]byte{1}, uint(255)...), api.ErrShort)
	refused(t, []byte{2, 1, 'a', 0}, api.ErrShort)
	refused(t, []byte{128}, api.ErrShort)
	// The number ends early: what it would be isn't known yet.
	refused(t, []byte{255, 255}, api.ErrShort)
}

func TestP112NumbersThatAreNone(t *testing.T) {
	far := bytes.Repeat([]byte{255}, 10)
	for _, b := range [][]byte{
		{128, 0}, {129, 0, 1, 'a', 0}, far,
		{1, 129, 0, 'a', 0}, {1, 1, 'a', 128, 0}, {1, 1, 'a', 129, 0, 'x'}, {2, 1, 'a', 0, 129, 0, 'b', 0},
		append([]byte{1}, far...), append([]byte{1, 1, 'a'}, far...),
	} {
		refused(t, b, api.ErrForm)
	}
}

func TestP112Left(t *testing.T) {
	for _, l := range [][]files.File{nil, of("a"), of("a/b", "a/c/d", "e"), sized(300)} {
		for _, more := range [][]byte{{0}, {1}, {128}, {255, 255, 255}, {1, 'x', 0}, put(l)} {
			refused(t, append(put(l), more...), api.ErrLeft)
		}
	}
	// Ahead of what Check refuses.
	refused(t, append(put(of("b", "a")), 0), api.ErrLeft)
	refused(t, append(put(of("")), 0), api.ErrLeft)
	refused(t, append(put(sized(append(slices.Repeat([]int{mostBytes}, 16), 1)...)), 0), api.ErrLeft)
}

// Paths and bytes that are longer than may be, whether they are there or not.
func TestP112TooLong(t *testing.T) {
	for _, n := range []int{256, 257, 1000, 1 << 31, 1 << 62} {
		refused(t, append([]byte{1}, uint(n)...), api.ErrBig)
		refused(t, append([]byte{2, 1, 'a', 0}, uint(n)...), api.ErrBig)
		if n < 1<<20 {
			refused(t, append(append([]byte{1}, row(bytes.Repeat([]byte("a"), n))...), 0), api.ErrBig)
		}
	}
	for _, n := range []int{mostBytes + 1, mostBytes + 2, 1 << 31, 1 << 62} {
		refused(t, append([]byte{1, 1, 'a'}, uint(n)...), api.ErrBig)
		refused(t, append([]byte{2, 1, 'a', 0, 1, 'b'}, uint(n)...), api.ErrBig)
		if n < 1<<21 {
			refused(t, append([]byte{1, 1, 'a'}, row(make([]byte, n))...), api.ErrBig)
		}
	}
	refused(t, append([]byte{1}, 255, 255, 255, 255, 255, 255, 255, 255, 255, 1), api.ErrBig)
	refused(t, append([]byte{1, 1, 'a'}, 255, 255, 255, 255, 255, 255, 255, 255, 255, 1), api.ErrBig)
	// As long as may be they are read.
	refused(t, append(append([]byte{1}, row(bytes.Repeat([]byte("a"), 255))...), 1), api.ErrShort)
	refused(t, append([]byte{1, 1, 'a'}, row(make([]byte, mostBytes))[:mostBytes]...), api.ErrShort)
}

// It is told as soon as the number is read, whatever follows.
func TestP112TooMany(t *testing.T) {
	for _, n := range []int{mostFiles + 1, mostFiles + 2, 1 << 31, 1 << 32, 1 << 62} {
		for _, more := range [][]byte{nil, {0}, {128, 0}, {1, 'a', 0}, {255}, bytes.Repeat([]byte{255}, 10)} {
			refused(t, append(uint(n), more...), api.ErrBig)
		}
	}
	refused(t, []byte{255, 255, 255, 255, 255, 255, 255, 255, 255, 1}, api.ErrBig)
	refused(t, put(many(mostFiles+1)), api.ErrBig)
	refused(t, append(put(many(mostFiles+1)), 7), api.ErrBig)
	l := many(mostFiles + 1)
	l[0].Path = ""
	refused(t, put(l), api.ErrBig)
	// One less is read.
	refused(t, append(uint(mostFiles), 128, 0), api.ErrForm)
	refused(t, append(uint(mostFiles), uint(256)...), api.ErrBig)
}

// What Check refuses is ErrForm, too much of all together, too.
func TestP112NoTrees(t *testing.T) {
	for _, l := range [][]files.File{
		of(""), of("/"), of("."), of("a/.."), of("a\x00"), of("a/"), of("b", "a"), of("a", "a"), of("a", "a/b"), of("a", "a!", "a/b"), of("a", "b", ""), of("", "a"),
		sized(append(slices.Repeat([]int{mostBytes}, 16), 1)...), sized(slices.Repeat([]int{mostBytes}, 17)...), sized(append(slices.Repeat([]int{256}, 65535), 257)...),
	} {
		if files.Check(l) == api.OK {
			t.Fatal("it is a tree")
		}
		refused(t, put(l), api.ErrForm)
	}
	l := many(mostFiles)
	l[mostFiles-1].Path = l[mostFiles-2].Path
	refused(t, put(l), api.ErrForm)
}

// The first fault that is read is told, those of Check last.
func TestP112FirstFault(t *testing.T) {
	cut := func(l []files.File) []byte { b := put(l); return b[:len(b)-1] }
	refused(t, cut(of("b", "a")), api.ErrShort)
	refused(t, cut(of("", "a", "b")), api.ErrShort)
	refused(t, append([]byte{2, 0, 0}, uint(256)...), api.ErrBig)
	refused(t, []byte{2, 0, 0, 128, 0}, api.ErrForm)
	refused(t, append([]byte{2, 1, '/', 0, 1, '/'}, uint(mostBytes+1)...), api.ErrBig)
	refused(t, append(append([]byte{1}, uint(256)...), 128, 0), api.ErrBig)
}

// --- P11.3: Under

func TestP113Example(t *testing.T) {
	l := of("a/b", "a/c/d", "e")
	tells(t, l, "", "a/", "e")
	tells(t, l, "a", "b", "c/")
	tells(t, l, "a/c", "d")
}

func TestP113Names(t *testing.T) {
	tells(t, nil, "")
	tells(t, []files.File{}, "a")
	tells(t, of("a"), "", "a")
	tells(t, of("a/b/c/d"), "", "a/")
	l := of("a", "b/a", "b/b/a", "b/b/b", "b/b/c/a", "b/c", "c/c/c/c", "d")
	tells(t, l, "", "a", "b/", "c/", "d")
	tells(t, l, "b", "a", "b/", "c")
	tells(t, l, "b/b", "a", "b", "c/")
	tells(t, l, "b/b/c", "a")
	tells(t, l, "c", "c/")
	tells(t, l, "c/c", "c/")
	tells(t, l, "c/c/c", "c")
}

// Names that begin as others do, and names with bytes below and above that of the slash: as paths rise so they are told.
func TestP113NamesThatBeginAlike(t *testing.T) {
	l := of("a!", "a!!/x", "a!a", "a.b/c", "a/!", "a/b", "a/b!/x", "a/b/c", "a0", "aa/b", "ab")
	l = slices.DeleteFunc(l, func(f files.File) bool { return f.Path == "a/b" })
	if check(l) != api.OK {
		t.Fatal("it is no tree")
	}
	tells(t, l, "", "a!", "a!!/", "a!a", "a.b/", "a/", "a0", "aa/", "ab")
	tells(t, l, "a", "!", "b!/", "b/")
	tells(t, l, "a/b", "c")
	tells(t, l, "a/b!", "x")
	tells(t, l, "a!!", "x")
	tells(t, l, "a.b", "c")
	tells(t, l, "aa", "b")
	l = of("x/a b/1", "x/a b/2", "x/a/1", "x/a/2", "x/a0/1", "y/a-/1", "y/a/1", "y/a/1!", "\xff/\xff", "\xff\xff/\xff/\xff")
	tells(t, l, "", "x/", "y/", "\xff/", "\xff\xff/")
	tells(t, l, "x", "a b/", "a/", "a0/")
	tells(t, l, "y", "a-/", "a/")
	tells(t, l, "y/a", "1", "1!")
	tells(t, l, "\xff\xff", "\xff/")
}

// Where no path goes on behind it nothing stands: files, parts of names, and what is no path.
func TestP113NoDirectories(t *testing.T) {
	l := of("a/b", "a/c/d", "bc/d/e", "e", "é/a")
	for _, dir := range []string{"e", "a/b", "a/c/d", "b", "bc/", "a/", "/", "/a", "//", ".", "..", "./a", "a/.", "a/..", "a/c/", "a/c/d/e", "bc/d/", "bc/d/e", "c", "c/d", "d", "d/e", "B", "A", "ac", "a/bc", "z", "\x00", "\xff", "\xc3", "a\x00", "a/b/", "a//c", strings.Repeat("a", 300)} {
		tells(t, l, dir)
	}
}

// Of trees of any shape, all directories and some that there aren't.
func TestP113UnderOfSomeTrees(t *testing.T) {
	r := rand.New(rand.NewSource(113))
	for range 500 {
		l := someTree(r, r.Intn(40))
		dirs := []string{"", "a", "a!", "b/a", "zz", "a/"}
		for _, f := range l {
			for i, c := range []byte(f.Path) {
				if c == '/' {
					dirs = append(dirs, f.Path[:i])
				}
			}
			dirs = append(dirs, f.Path, somePath(r))
		}
		for _, dir := range dirs {
			told, more := files.Under(l, dir)
			want, wantMore := under(l, dir)
			if !slices.Equal(told, want) || !slices.Equal(more, wantMore) {
				t.Fatalf("under %q: %q, %v and not %q, %v", dir, told, more, want, wantMore)
			}
		}
	}
}

func TestP113UnderOfGreatTrees(t *testing.T) {
	l := many(mostFiles)
	told, more := files.Under(l, "")
	if len(told) != mostFiles || slices.Contains(more, true) || told[0] != number(0) || told[mostFiles-1] != number(mostFiles-1) {
		t.Error(len(told), len(more))
	}
	for i := range l {
		l[i].Path = "d/" + number(i/256) + "/" + l[i].Path
	}
	tells(t, l, "", "d/")
	told, more = files.Under(l, "d")
	if len(told) != 256 || slices.Contains(more, false) {
		t.Error(len(told), len(more))
	}
	for i, name := range told {
		below, more := files.Under(l, "d/"+name)
		if name != number(i) || len(below) != 256 || slices.Contains(more, true) || below[0] != number(i*256) || below[255] != number(i*256+255) {
			t.Fatal(i, name, len(below))
		}
	}
	deep := of(strings.Repeat("a/", 127) + "a")
	for n := range 127 {
		tells(t, deep, strings.TrimSuffix(strings.Repeat("a/", n), "/"), "a/")
	}
	tells(t, deep, strings.TrimSuffix(strings.Repeat("a/", 127), "/"), "a")
	tells(t, deep, strings.TrimSuffix(strings.Repeat("a/", 128), "/"))
}

// Of what is no tree it answers something.
func TestP113UnderOfNoTrees(t *testing.T) {
	r := rand.New(rand.NewSource(1133))
	paths := []string{"", "/", "//", "a", "a/", "/a", "a//b", "a/b", ".", "..", "\x00", "b", "b/a", "b", strings.Repeat("/", 300)}
	for range 2000 {
		var l []files.File
		for range r.Intn(8) {
			l = append(l, files.File{Path: paths[r.Intn(len(paths))]})
		}
		dir := paths[r.Intn(len(paths))]
		told, more := files.Under(l, dir)
		again, moreAgain := files.Under(l, dir)
		if len(told) != len(more) || !slices.Equal(told, again) || !slices.Equal(more, moreAgain) {
			t.Fatal(l, dir, told, more, again, moreAgain)
		}
	}
}

// --- P11.4: what follows

func TestP114PutIsGot(t *testing.T) {
	r := rand.New(rand.NewSource(114))
	trees := [][]files.File{nil, many(mostFiles), sized(slices.Repeat([]int{mostBytes}, 16)...), of(strings.Repeat("a/", 127)+"a", strings.Repeat("b", 255))}
	for range 300 {
		trees = append(trees, someTree(r, r.Intn(40)))
	}
	for _, l := range trees {
		b, err := files.Put(l)
		if err != api.OK {
			t.Fatal(err)
		}
		got, err := files.Get(b)
		if err != api.OK || !files.Same(got, l) || !same(got, l) {
			t.Fatal(len(l), err, len(got))
		}
		again, err := files.Put(got)
		if err != api.OK || !bytes.Equal(again, b) {
			t.Fatal(len(l), err, len(again))
		}
	}
}

// Bytes that are changed anywhere are refused, or those of another tree, and of no other bytes.
func TestP114OneRowOfBytesATree(t *testing.T) {
	r := rand.New(rand.NewSource(1144))
	taken := 0
	for range 3000 {
		b := put(someTree(r, 1+r.Intn(6)))
		was := bytes.Clone(b)
		for range 1 + r.Intn(2) {
			switch at := r.Intn(len(b)); r.Intn(3) {
			case 0:
				b[at] ^= 1 << r.Intn(8)
			case 1:
				b = slices.Insert(b, at, byte(r.Intn(256)))
			case 2:
				b = append(slices.Delete(b, at, at+1), 0)
			}
		}
		l, err := files.Get(b)
		if err != api.OK {
			if l != nil {
				t.Fatal("files beside an error")
			}
			continue
		}
		taken++
		if again, err := files.Put(l); err != api.OK || !bytes.Equal(again, b) {
			t.Fatalf("%v is read as %v is", b, again)
		}
		if other, _ := files.Get(was); files.Same(l, other) != bytes.Equal(was, b) {
			t.Fatalf("%v is read as %v is", b, was)
		}
	}
	if taken < 100 {
		t.Error("too few are taken:", taken)
	}
}

// Going down from the top meets each file once, and each name is a file's, or a directory's, not both.
func TestP114AFileOrADirectory(t *testing.T) {
	r := rand.New(rand.NewSource(11444))
	for range 500 {
		l := someTree(r, r.Intn(40))
		var met []string
		var down func(dir string)
		down = func(dir string) {
			told, more := files.Under(l, dir)
			if len(told) != len(more) || len(told) == 0 && dir != "" {
				t.Fatalf("%q: %q, %v", dir, told, more)
			}
			once := map[string]int{}
			for i, name := range told {
				if once[name]++; once[name] > 1 || !files.Path(name) || strings.Contains(name, "/") {
					t.Fatalf("%q stands twice in %q, or is no name", name, dir)
				}
				at := name
				if dir != "" {
					at = dir + "/" + name
				}
				isFile := slices.ContainsFunc(l, func(f files.File) bool { return f.Path == at })
				if isFile == more[i] {
					t.Fatalf("%q: a directory: %v", at, more[i])
				}
				if isFile {
					met = append(met, at)
					continue
				}
				down(at)
			}
		}
		down("")
		slices.Sort(met)
		if !slices.EqualFunc(met, l, func(p string, f files.File) bool { return p == f.Path }) {
			t.Fatalf("%q", met)
		}
	}
}

// --- What is handed in stays, and what is told is in memory of its own

func TestStays(t *testing.T) {
	r := rand.New(rand.NewSource(11))
	for range 100 {
		l := append(someTree(r, 20), make([]files.File, 3)...)
		n := len(l) - 3
		room := clone(l)
		b := append(put(l[:n]), 1, 2, 3)
		wasBytes := bytes.Clone(b)
		for _, k := range []int{0, n / 2, n, n + 3} {
			files.Check(l[:k])
			files.Put(l[:k])
			files.Under(l[:k], "")
			files.Under(l[:k], "a")
			files.Same(l[:k], room[:k])
		}
		for range 2 {
			files.Get(b)
			files.Get(b[:len(b)-3])
			files.Get(b[:len(b)/2])
		}
		if !same(l, room) || !bytes.Equal(b, wasBytes) {
			t.Fatal("what is handed in is changed")
		}
	}
}

func TestNotKept(t *testing.T) {
	l := of("a/b", "a/c/d", "e", "f", "g")
	want := put(l)
	b, _ := files.Put(l)
	got, _ := files.Get(b)
	told, more := files.Under(l, "")
	for i := range l {
		clear(l[i].Bytes)
		l[i].Path = "x"
	}
	if !bytes.Equal(b, want) || !slices.Equal(told, []string{"a", "e", "f", "g"}) || !slices.Equal(more, []bool{true, false, false, false}) {
		t.Error("what is told changes with what was handed in")
	}
	clear(b)
	if !bytes.Equal(put(got), want) {
		t.Error("what is got changes with the bytes it is of")
	}
}

func TestAnswersInNewMemory(t *testing.T) {
	l := of("a/b", "a/c/d", "e", "f", "g")
	want := put(l)
	for range 3 {
		one, _ := files.Put(l)
		other, _ := files.Put(l)
		clear(one)
		_ = append(one[:2], 7, 7)
		if !bytes.Equal(other, want) {
			t.Error("two answers of Put share memory")
		}
		x, _ := files.Get(want)
		y, _ := files.Get(want)
		for i := range x {
			whole := x[i].Bytes[:cap(x[i].Bytes)]
			for k := range whole {
				whole[k] ^= 255
			}
			for k := range x[i].Bytes {
				x[i].Bytes[k] ^= 255
			}
		}
		if !bytes.Equal(put(x), want) {
			t.Error("two files that are got share memory")
		}
		for i := range x {
			clear(x[i].Bytes)
		}
		clear(x)
		if !bytes.Equal(put(y), want) || !bytes.Equal(want, put(l)) {
			t.Error("two answers of Get share memory")
		}
		told, more := files.Under(l, "")
		again, moreAgain := files.Under(l, "")
		clear(told)
		clear(more)
		if !slices.Equal(again, []string{"a", "e", "f", "g"}) || !slices.Equal(moreAgain, []bool{true, false, false, false}) {
			t.Error("two answers of Under share memory")
		}
	}
}

// Names are in memory of their own, too, not within the paths.
func TestNamesInNewMemory(t *testing.T) {
	l := of("abc/def", "ghi")
	for _, dir := range []string{"", "abc"} {
		told, _ := files.Under(l, dir)
		for _, name := range told {
			for _, f := range l {
				from, at := uintptr(unsafe.Pointer(unsafe.StringData(f.Path))), uintptr(unsafe.Pointer(unsafe.StringData(name)))
				if at >= from && at < from+uintptr(len(f.Path)) {
					t.Errorf("%q stands within %q", name, f.Path)
				}
			}
		}
	}
}

// The same calls have the same answers, whatever was called between.
func TestNoStateOfItsOwn(t *testing.T) {
	l := of("a/b", "a/c/d", "e")
	b := put(l)
	for range 3 {
		checks(t, l, api.OK)
		gets(t, b, l)
		tells(t, l, "", "a/", "e")
		checks(t, of("b", "a"), api.ErrArg)
		refused(t, b[:3], api.ErrShort)
		refused(t, []byte{1, 0, 0}, api.ErrForm)
		tells(t, of("x"), "", "x")
		if !files.Path("a") || files.Path("") || !files.Same(l, clone(l)) || files.Same(l, nil) {
			t.Error("other answers")
		}
	}
}
