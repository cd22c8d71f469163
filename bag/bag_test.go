package bag_test

import (
	"bytes"
	"math"
	"slices"
	"strconv"
	"testing"

	"bailee/api"
	"bailee/bag"
)

// mostBytes is how many bytes a message may have, as the words tell it.
const mostBytes = 2097152

// many is how many messages there may be, as the words tell it.
const many = 256

// nowhere are places that a list of n hasn't, and nodes that there aren't among n.
func nowhere(n int) []int {
	return []int{-1, -2, -n - 1, math.MinInt, n, n + 1, 2*n + 1, n + 256, math.MaxInt}
}

// message is one whose bytes tell it apart from those of other seeds.
func message(from, to, seed int) bag.Message {
	return bag.Message{From: from, To: to, Bytes: []byte("message " + strconv.Itoa(seed))}
}

// same tells whether two messages are one.
func same(a, b bag.Message) bool {
	return a.From == b.From && a.To == b.To && bytes.Equal(a.Bytes, b.Bytes)
}

// fresh is a new bag.
func fresh(t *testing.T, nodes int) *bag.Bag {
	t.Helper()
	b, err := bag.New(nodes)
	if err != api.OK || b == nil {
		t.Fatal(nodes, b != nil, err)
	}
	return b
}

// puts puts messages in, which must be done.
func puts(t *testing.T, b *bag.Bag, l ...bag.Message) {
	t.Helper()
	for _, m := range l {
		if err := b.Put(m); err != api.OK {
			t.Fatal("put of", m, err)
		}
	}
}

// of is a bag of three nodes with so many messages, of which the i-th one is some(i).
func of(t *testing.T, n int) *bag.Bag {
	t.Helper()
	b := fresh(t, 3)
	for i := range n {
		puts(t, b, some(i))
	}
	return b
}

// some is a message between three nodes.
func some(i int) bag.Message { return message(i%2, i%3, i) }

// refused puts one in, which must be refused, and changes nothing that can be asked.
func refused(t *testing.T, b *bag.Bag, m bag.Message, want api.Errno) {
	t.Helper()
	n, l := b.Len(), b.For(m.To)
	if err := b.Put(m); err != want {
		t.Error("put from", m.From, "to", m.To, "of", len(m.Bytes), "bytes:", err, "and not", want)
	}
	if b.Len() != n || !slices.Equal(b.For(m.To), l) {
		t.Error("what is refused is there:", b.Len(), "of", n)
	}
}

// copies puts the i-th one in again, which must be done.
func copies(t *testing.T, b *bag.Bag, l ...int) {
	t.Helper()
	for _, i := range l {
		if err := b.Copy(i); err != api.OK {
			t.Fatal("copy of", i, err)
		}
	}
}

// takes takes the i-th one, which must be this one.
func takes(t *testing.T, b *bag.Bag, i int, want bag.Message) {
	t.Helper()
	if m, is := b.Take(i); !is || !same(m, want) {
		t.Error("take of", i, m, is, "and not", want)
	}
}

// hasNo fails unless there are no such places.
func hasNo(t *testing.T, b *bag.Bag, l ...int) {
	t.Helper()
	n := b.Len()
	for _, i := range l {
		if m, is := b.Take(i); is || m.From != 0 || m.To != 0 || m.Bytes != nil {
			t.Error("take of", i, m, is, "and not nothing")
		}
		if err := b.Copy(i); err != api.ErrRange {
			t.Error("copy of", i, err)
		}
	}
	if b.Len() != n {
		t.Error(b.Len(), "and not", n)
	}
}

// ticks lets time pass; so many must go.
func ticks(t *testing.T, b *bag.Bag, most, want int) {
	t.Helper()
	n := b.Len()
	if went := b.Tick(most); went != want || b.Len() != n-want {
		t.Error("tick of", most, ":", went, "went and not", want, "of", n, ",", b.Len(), "stay")
	}
}

// holds fails unless these are there, in this order; behind it there are none.
func holds(t *testing.T, b *bag.Bag, want ...bag.Message) {
	t.Helper()
	if b.Len() != len(want) {
		t.Error(b.Len(), "and not", len(want))
	}
	for node := -1; node <= 64; node++ {
		isFor(t, b, node, want)
	}
	for _, m := range want {
		takes(t, b, 0, m)
	}
	if b.Len() != 0 {
		t.Error(b.Len(), "are left")
	}
}

// isFor fails unless those for a node are told as they stand in this list.
func isFor(t *testing.T, b *bag.Bag, node int, list []bag.Message) {
	t.Helper()
	var want []int
	for i := range list {
		if list[i].To == node {
			want = append(want, i)
		}
	}
	if l := b.For(node); !slices.Equal(l, want) {
		t.Error("for", node, "are", l, "and not", want)
	}
}

// somes are some of first to last, the last one left out.
func somes(first, last int) []bag.Message {
	var l []bag.Message
	for i := first; i < last; i++ {
		l = append(l, some(i))
	}
	return l
}

// --- P17.1: New, Put, Len

func TestP171NewTakes(t *testing.T) {
	for nodes := 1; nodes <= 64; nodes++ {
		b := fresh(t, nodes)
		hasNo(t, b, append(nowhere(0), 1)...)
		ticks(t, b, 0, 0)
		holds(t, b)
	}
}

func TestP171NewRefuses(t *testing.T) {
	for _, nodes := range []int{0, -1, -2, -64, math.MinInt, 65, 66, 128, 256, math.MaxInt} {
		if b, err := bag.New(nodes); err != api.ErrArg || b != nil {
			t.Error(nodes, b != nil, err)
		}
	}
}

func TestP171Most(t *testing.T) {
	if bag.Most != many {
		t.Error(bag.Most)
	}
}

// TestP171PutTakes: from each node to each one, itself too.
func TestP171PutTakes(t *testing.T) {
	for _, nodes := range []int{1, 2, 3, 10, 63, 64} {
		b := fresh(t, nodes)
		for from := range nodes {
			var l []bag.Message
			for to := range nodes {
				l = append(l, message(from, to, from+to))
			}
			puts(t, b, l...)
			holds(t, b, l...)
		}
	}
}

func TestP171PutRefusesNodes(t *testing.T) {
	for _, nodes := range []int{1, 2, 63, 64} {
		b := fresh(t, nodes)
		first := message(nodes-1, 0, 1)
		puts(t, b, first)
		for _, none := range nowhere(nodes) {
			for node := range nodes {
				refused(t, b, message(none, node, 2), api.ErrArg)
				refused(t, b, message(node, none, 2), api.ErrArg)
			}
			for _, other := range nowhere(nodes) {
				refused(t, b, message(none, other, 2), api.ErrArg)
			}
		}
		holds(t, b, first)
	}
}

func TestP171PutOfSizes(t *testing.T) {
	b := fresh(t, 2)
	all := make([]byte, 2*mostBytes)
	for i := range all {
		all[i] = byte(i + i>>8)
	}
	var l []bag.Message
	for _, n := range []int{0, 1, 2, 255, 256, 65535, 65536, 65537, 1 << 20, 1<<20 + 1, mostBytes - 1, mostBytes} {
		l = append(l, bag.Message{From: 1, Bytes: all[:n]})
		puts(t, b, l[len(l)-1])
	}
	for _, n := range []int{mostBytes + 1, mostBytes + 2, mostBytes + 65536, 2 * mostBytes} {
		refused(t, b, bag.Message{To: 1, Bytes: all[:n]}, api.ErrBig)
	}
	holds(t, b, l...)
}

// TestP171PutOfNone: no bytes are a message, too.
func TestP171PutOfNone(t *testing.T) {
	b := fresh(t, 2)
	puts(t, b, bag.Message{To: 1}, bag.Message{From: 1, Bytes: []byte{}}, bag.Message{})
	copies(t, b, 0, 1)
	for range 5 {
		if m, is := b.Take(0); !is || len(m.Bytes) != 0 {
			t.Error(m, is)
		}
	}
	hasNo(t, b, 0)
}

// TestP171PutIsTheLast: also of the same one, again and again.
func TestP171PutIsTheLast(t *testing.T) {
	b := fresh(t, 3)
	var l []bag.Message
	for i := range 30 {
		m := some(i / 2 % 7)
		puts(t, b, m)
		l = append(l, m)
		if b.Len() != i+1 {
			t.Error(i, b.Len())
		}
		for node := range 4 {
			isFor(t, b, node, l)
		}
	}
	holds(t, b, l...)
}

func TestP171PutOfFull(t *testing.T) {
	b := of(t, many)
	for range 3 {
		refused(t, b, some(700), api.ErrSpace)
		refused(t, b, bag.Message{}, api.ErrSpace)
	}
	holds(t, b, somes(0, many)...)
}

// TestP171PutAgain: where some went there is room again, for so many and no more.
func TestP171PutAgain(t *testing.T) {
	b := of(t, many)
	takes(t, b, 100, some(100))
	puts(t, b, some(many))
	refused(t, b, some(0), api.ErrSpace)
	takes(t, b, many-1, some(many))
	takes(t, b, 0, some(0))
	copies(t, b, 0)
	puts(t, b, some(5))
	refused(t, b, some(0), api.ErrSpace)
	want := slices.Concat(somes(1, 100), somes(101, many), somes(1, 2), somes(5, 6))
	holds(t, b, want...)

	b = of(t, many)
	ticks(t, b, 0, many)
	for i := range many {
		puts(t, b, some(i))
	}
	refused(t, b, some(0), api.ErrSpace)
	holds(t, b, somes(0, many)...)
}

// TestP171WhichFirst: nodes that there aren't, then too many bytes, then no room.
func TestP171WhichFirst(t *testing.T) {
	big := make([]byte, mostBytes+1)
	b := of(t, 2)
	refused(t, b, bag.Message{From: 3, Bytes: big}, api.ErrArg)
	refused(t, b, bag.Message{To: -1, Bytes: big}, api.ErrArg)
	refused(t, b, bag.Message{From: 2, To: 2, Bytes: big}, api.ErrBig)
	for i := 2; i < many; i++ {
		puts(t, b, some(i))
	}
	refused(t, b, bag.Message{From: 3, Bytes: big}, api.ErrArg)
	refused(t, b, bag.Message{To: -1, Bytes: big}, api.ErrArg)
	refused(t, b, message(-1, 0, 0), api.ErrArg)
	refused(t, b, message(0, 3, 0), api.ErrArg)
	refused(t, b, bag.Message{From: 2, To: 2, Bytes: big}, api.ErrBig)
	refused(t, b, bag.Message{From: 2, To: 2, Bytes: big[:mostBytes]}, api.ErrSpace)
	holds(t, b, somes(0, many)...)
}

// TestP171AgeIsNought: whatever time passed ahead of it, and how old the others are.
func TestP171AgeIsNought(t *testing.T) {
	for ahead := range 5 {
		b := fresh(t, 3)
		puts(t, b, some(0))
		for range ahead {
			ticks(t, b, 10, 0)
		}
		puts(t, b, some(1))
		for range 3 {
			ticks(t, b, ahead+3, 0)
		}
		ticks(t, b, ahead+4, 0)
		if ahead > 0 {
			ticks(t, b, 5, 1)
			holds(t, b, some(1))
		}
	}
}

// --- P17.2: Take, Copy, For

func TestP172TakeAnywhere(t *testing.T) {
	for _, n := range []int{1, 2, 3, 5, 8, 255, 256} {
		for i := range n {
			if n > 100 && i > 3 && i < n-3 && i%50 != 0 {
				continue
			}
			b := of(t, n)
			takes(t, b, i, some(i))
			holds(t, b, slices.Concat(somes(0, i), somes(i+1, n))...)
		}
	}
}

func TestP172TakeNothing(t *testing.T) {
	for _, n := range []int{0, 1, 2, 5, 255} {
		b := of(t, n)
		hasNo(t, b, nowhere(n)...)
		holds(t, b, somes(0, n)...)
	}
	b := of(t, many)
	for _, i := range nowhere(many) {
		if m, is := b.Take(i); is || m.From != 0 || m.To != 0 || m.Bytes != nil {
			t.Error(i, m, is)
		}
	}
	holds(t, b, somes(0, many)...)
}

// TestP172TakeAll: from the front, from the back, from within.
func TestP172TakeAll(t *testing.T) {
	const n = 20
	for turn := range 4 {
		b := of(t, n)
		left := somes(0, n)
		for k := n; k > 0; k-- {
			i := []int{0, k - 1, k / 2, k * 7 % 11 % k}[turn]
			takes(t, b, i, left[i])
			left = slices.Concat(left[:i], left[i+1:])
			for node := range 3 {
				isFor(t, b, node, left)
			}
			hasNo(t, b, len(left))
		}
	}
}

// TestP172TakeInNewMemory: what is done with one that was taken reaches none that is there, no copy either, nor what was put.
func TestP172TakeInNewMemory(t *testing.T) {
	row := []byte("0123456789")
	b := fresh(t, 2)
	puts(t, b, bag.Message{Bytes: row}, bag.Message{To: 1, Bytes: row}, bag.Message{Bytes: row[:5]})
	copies(t, b, 0, 2, 3)
	for k := range 6 {
		m, is := b.Take(0)
		want := "0123456789"
		if k == 2 || k == 4 {
			want = want[:5]
		}
		if !is || string(m.Bytes) != want {
			t.Errorf("%d: %q %v", k, m.Bytes, is)
		}
		all := m.Bytes[:cap(m.Bytes)]
		for i := range all {
			all[i] = 'x'
		}
		_ = append(m.Bytes[:2], "yyyyyyyyyyyy"...)
		if string(row) != "0123456789" {
			t.Errorf("%d: what was put is %q", k, row)
		}
	}
}

// TestP172TakenStays: what was taken is as it was, whatever comes behind it.
func TestP172TakenStays(t *testing.T) {
	b := of(t, 3)
	copies(t, b, 1)
	m, _ := b.Take(1)
	for i := range many - 3 {
		puts(t, b, some(40+i))
	}
	b.Tick(0)
	puts(t, b, some(9), some(8))
	copies(t, b, 0, 1)
	if !same(m, some(1)) {
		t.Error(m)
	}
}

func TestP172CopyAnywhere(t *testing.T) {
	for _, n := range []int{1, 2, 3, 5, 8, 254, 255} {
		for i := range n {
			if n > 100 && i > 3 && i < n-3 && i%50 != 0 {
				continue
			}
			b := of(t, n)
			copies(t, b, i)
			holds(t, b, append(somes(0, n), some(i))...)
		}
	}
}

// TestP172CopyOfCopies: a copy is one as any other.
func TestP172CopyOfCopies(t *testing.T) {
	b := of(t, 2)
	copies(t, b, 1, 2, 0, 3, 4)
	holds(t, b, some(0), some(1), some(1), some(1), some(0), some(1), some(0))
	b = of(t, 1)
	for i := range many - 1 {
		copies(t, b, i)
	}
	if err := b.Copy(0); err != api.ErrSpace || b.Len() != many {
		t.Error(err, b.Len())
	}
	for range many {
		takes(t, b, 0, some(0))
	}
}

// TestP172CopyOfFull: that there is no such one is told ahead of that there is no room.
func TestP172CopyOfFull(t *testing.T) {
	b := of(t, many)
	for i := range many {
		if err := b.Copy(i); err != api.ErrSpace {
			t.Error(i, err)
		}
	}
	hasNo(t, b, nowhere(many)...)
	takes(t, b, 7, some(7))
	copies(t, b, many-2)
	if err := b.Copy(0); err != api.ErrSpace {
		t.Error(err)
	}
	holds(t, b, slices.Concat(somes(0, 7), somes(8, many), somes(many-1, many))...)
}

// TestP172CopyIsYoung: a copy's age is 0, and what it is of stays as old as it was.
func TestP172CopyIsYoung(t *testing.T) {
	for old := 1; old < 6; old++ {
		b := of(t, 2)
		for range old {
			ticks(t, b, 50, 0)
		}
		copies(t, b, 0)
		ticks(t, b, old, 2)
		for range old - 1 {
			ticks(t, b, old, 0)
		}
		ticks(t, b, old, 1)
		holds(t, b)
	}
}

// TestP172CopyStays: a copy is there also where what it is of is none any more.
func TestP172CopyStays(t *testing.T) {
	b := of(t, 2)
	copies(t, b, 0)
	m, _ := b.Take(0)
	clear(m.Bytes)
	takes(t, b, 1, some(0))
	holds(t, b, some(1))
}

func TestP172For(t *testing.T) {
	b := fresh(t, 64)
	var l []bag.Message
	for i := range many {
		m := message(i*3%64, i*i%64, i)
		l = append(l, m)
		puts(t, b, m)
		for node := -1; node <= 64; node++ {
			isFor(t, b, node, l)
		}
	}
	for _, node := range append(nowhere(64), nowhere(256)...) {
		isFor(t, b, node, l)
	}
	for len(l) > 0 {
		i := len(l) * 5 / 7
		takes(t, b, i, l[i])
		l = slices.Delete(l, i, i+1)
		isFor(t, b, i%64, l)
	}
}

// TestP172ForIsTo: whom a message is from is another thing.
func TestP172ForIsTo(t *testing.T) {
	b := fresh(t, 4)
	puts(t, b, message(0, 1, 0), message(1, 0, 1), message(2, 1, 2), message(1, 3, 3), message(3, 3, 4))
	for node, want := range [][]int{{1}, {0, 2}, nil, {3, 4}} {
		if l := b.For(node); !slices.Equal(l, want) {
			t.Error(node, l, want)
		}
	}
}

func TestP172ForInNewMemory(t *testing.T) {
	b := fresh(t, 2)
	puts(t, b, message(0, 1, 0), message(0, 0, 1), message(0, 1, 2))
	one, other := b.For(1), b.For(1)
	one[0], one[1] = 9, 9
	_ = append(other[:1], 8)
	if l := b.For(1); !slices.Equal(l, []int{0, 2}) {
		t.Error(l)
	}
	kept := b.For(1)
	takes(t, b, 0, message(0, 1, 0))
	b.Tick(0)
	puts(t, b, message(0, 1, 3))
	if !slices.Equal(kept, []int{0, 2}) || !slices.Equal(b.For(1), []int{0}) {
		t.Error(kept, b.For(1))
	}
}

// --- P17.3: Tick, and nil

func TestP173TickOfNought(t *testing.T) {
	b := of(t, 1)
	ticks(t, b, 0, 1)
	ticks(t, b, 0, 0)
	holds(t, b)
}

// TestP173TickOfMost: just behind so many ticks one more lets it go.
func TestP173TickOfMost(t *testing.T) {
	for most := range 70 {
		b := of(t, 3)
		for range most {
			ticks(t, b, most, 0)
		}
		ticks(t, b, most, 3)
		ticks(t, b, most, 0)
		holds(t, b)
	}
}

func TestP173TickBelowNought(t *testing.T) {
	for _, most := range []int{-1, -2, -3, -64, -256, math.MinInt, math.MinInt + 1} {
		b := of(t, 4)
		ticks(t, b, most, 4)
		ticks(t, b, most, 0)
		puts(t, b, some(4))
		ticks(t, b, most, 1)
		holds(t, b)
		// They are one older behind it, as the others are.
		b = of(t, 2)
		ticks(t, b, 1, 0)
		puts(t, b, some(2))
		ticks(t, b, most, 3)
	}
}

func TestP173TickFarOff(t *testing.T) {
	b := of(t, 2)
	for range 70000 {
		ticks(t, b, math.MaxInt, 0)
	}
	puts(t, b, some(2))
	for range 10 {
		ticks(t, b, 70010, 0)
	}
	ticks(t, b, 70011, 0)
	ticks(t, b, 70011, 2)
	ticks(t, b, 13, 0)
	ticks(t, b, 13, 1)
}

// TestP173TickAges: of messages of each age those that are older go, and the others stay, in their order.
func TestP173TickAges(t *testing.T) {
	const n = 12
	for most := range n + 3 {
		b := fresh(t, 3)
		for i := range n {
			// Two of each age.
			puts(t, b, some(2*i), some(2*i+1))
			if i < n-1 {
				ticks(t, b, n, 0)
			}
		}
		// Their ages are then n, n less 1 and so on, 1 the last ones'.
		gone := max(n-most, 0)
		ticks(t, b, most, 2*gone)
		holds(t, b, somes(2*gone, 2*n)...)
	}
}

// TestP173TickEach: what is told by one Tick says nothing of the next one's most.
func TestP173TickEach(t *testing.T) {
	b := of(t, 3)
	ticks(t, b, 90, 0)
	puts(t, b, some(3))
	ticks(t, b, 5, 0)
	puts(t, b, some(4), some(5))
	ticks(t, b, 70, 0)
	ticks(t, b, 3, 3)
	ticks(t, b, 3, 1)
	puts(t, b, some(6))
	ticks(t, b, 4, 0)
	ticks(t, b, 4, 2)
	holds(t, b, some(6))
}

// TestP173TickOfCopies: an old one whose copy is young, and others between; what stays isn't what stood in front.
func TestP173TickOfCopies(t *testing.T) {
	b := of(t, 3)
	ticks(t, b, 9, 0)
	ticks(t, b, 9, 0)
	copies(t, b, 2, 0)
	puts(t, b, some(9))
	takes(t, b, 1, some(1))
	ticks(t, b, 2, 2)
	copies(t, b, 2)
	holds(t, b, some(2), some(0), some(9), some(9))
}

// TestP173OnlyTickAges: whatever else is asked, no time passes.
func TestP173OnlyTickAges(t *testing.T) {
	b := of(t, 9)
	for k := range 5 {
		takes(t, b, 0, some(k))
		hasNo(t, b, 8-k, -1)
		isFor(t, b, 1, somes(k+1, 9))
		copies(t, b, 0)
		takes(t, b, 8-k, some(k+1))
		refused(t, b, message(3, 0, 0), api.ErrArg)
	}
	ticks(t, b, 1, 0)
	ticks(t, b, 1, 4)
}

func TestP173TickOfFull(t *testing.T) {
	b := of(t, many)
	ticks(t, b, 2, 0)
	ticks(t, b, 2, 0)
	refused(t, b, some(0), api.ErrSpace)
	ticks(t, b, 2, many)
	holds(t, b)
}

func TestP173OfNil(t *testing.T) {
	var b *bag.Bag
	for range 2 {
		for _, i := range append(nowhere(0), 1) {
			for _, m := range []bag.Message{{}, message(0, 0, 1), message(i, i, 1), {Bytes: make([]byte, mostBytes+1)}} {
				if err := b.Put(m); err != api.ErrArg {
					t.Error("put:", err)
				}
			}
			if m, is := b.Take(i); is || m.From != 0 || m.To != 0 || m.Bytes != nil {
				t.Error("take:", m, is)
			}
			if err := b.Copy(i); err != api.ErrArg {
				t.Error("copy:", err)
			}
			if l := b.For(i); l != nil {
				t.Error("for:", l)
			}
			if n := b.Tick(i); n != 0 {
				t.Error("tick:", n)
			}
		}
		if b.Len() != 0 {
			t.Error("len:", b.Len())
		}
	}
}

// TestP173OfNone: a bag that New didn't make; no call panics.
func TestP173OfNone(t *testing.T) {
	b := &bag.Bag{}
	for _, i := range append(nowhere(1), 0) {
		b.Put(message(i, i, 1))
		b.Put(message(0, i, 1))
		b.Put(message(i, 0, 1))
		b.Take(i)
		b.Copy(i)
		b.For(i)
		b.Tick(i)
		b.Len()
	}
}
