package bag_test

import (
	"bytes"
	"math/rand"
	"slices"
	"strconv"
	"testing"

	"bailee/api"
	"bailee/bag"
)

// came is a message, and the moment at which it was put, or copied.
type came struct {
	from, to int
	text     string
	at       int
}

// telling is a second telling of a bag, worked out from the words: what came, by the number of its coming, and which of these are gone.
type telling struct {
	nodes, moment int
	all           []came
	gone          map[int]bool
}

// there are the numbers of those that are there, in their order.
func (s *telling) there() []int {
	var l []int
	for k := range s.all {
		if !s.gone[k] {
			l = append(l, k)
		}
	}
	return l
}

func (s *telling) put(m bag.Message) api.Errno {
	is := func(node int) bool { return -1 < node && node < s.nodes }
	switch {
	case !is(m.From) || !is(m.To):
		return api.ErrArg
	case len(m.Bytes) > mostBytes:
		return api.ErrBig
	case len(s.there()) == many:
		return api.ErrSpace
	}
	s.all = append(s.all, came{m.From, m.To, string(m.Bytes), s.moment})
	return api.OK
}

func (s *telling) copy(i int) api.Errno {
	l := s.there()
	switch {
	case i < 0 || i >= len(l):
		return api.ErrRange
	case len(l) == many:
		return api.ErrSpace
	}
	c := s.all[l[i]]
	c.at = s.moment
	s.all = append(s.all, c)
	return api.OK
}

func (s *telling) take(i int) (bag.Message, bool) {
	l := s.there()
	if i < 0 || i >= len(l) {
		return bag.Message{}, false
	}
	s.gone[l[i]] = true
	c := s.all[l[i]]
	return bag.Message{From: c.from, To: c.to, Bytes: []byte(c.text)}, true
}

func (s *telling) tick(most int) int {
	s.moment++
	if most < 0 {
		most = 0
	}
	n := 0
	for _, k := range s.there() {
		if s.moment-s.all[k].at > most {
			s.gone[k] = true
			n++
		}
	}
	return n
}

// whose are the places of those that are there, by whom they are for.
func (s *telling) whose() map[int][]int {
	of := map[int][]int{}
	for i, k := range s.there() {
		of[s.all[k].to] = append(of[s.all[k].to], i)
	}
	return of
}

// both is a bag, and its second telling.
type both struct {
	b *bag.Bag
	s *telling
	n map[string]int // how often what came up
}

func twin(t *testing.T, nodes int) *both {
	t.Helper()
	return &both{fresh(t, nodes), &telling{nodes: nodes, gone: map[int]bool{}}, map[string]int{}}
}

// put, copy, take and tick do a thing with both, and tell a fault unless the answers are one.
func (x *both) put(t *testing.T, m bag.Message) {
	t.Helper()
	got, want := x.b.Put(m), x.s.put(m)
	if got != want {
		t.Fatal("put:", got, "and not", want)
	}
	x.n["put "+strconv.Itoa(int(want))]++
}

func (x *both) copy(t *testing.T, i int) {
	t.Helper()
	got, want := x.b.Copy(i), x.s.copy(i)
	if got != want {
		t.Fatal("copy of", i, ":", got, "and not", want)
	}
	x.n["copy "+strconv.Itoa(int(want))]++
}

func (x *both) take(t *testing.T, i int) {
	t.Helper()
	got, is := x.b.Take(i)
	want, there := x.s.take(i)
	if is != there || !same(got, want) {
		t.Fatal("take of", i, ":", got, is, "and not", want, there)
	}
	x.n["take "+strconv.FormatBool(is)]++
	// What is taken is anybody's: nothing that is done with it reaches the bag.
	for k := range got.Bytes {
		got.Bytes[k] ^= 255
	}
}

func (x *both) tick(t *testing.T, most int) {
	t.Helper()
	got, want := x.b.Tick(most), x.s.tick(most)
	if got != want {
		t.Fatal("tick of", most, ":", got, "and not", want)
	}
	switch {
	case want == 0:
		x.n["tick: none"]++
	case x.b.Len() > 0:
		x.n["tick: some"]++
	default:
		x.n["tick: all"]++
	}
}

// asks tells a fault unless what only asks answers as the second telling does.
func (x *both) asks(t *testing.T) {
	t.Helper()
	if n := len(x.s.there()); x.b.Len() != n || n > many {
		t.Fatal(x.b.Len(), "and not", n)
	}
	want := x.s.whose()
	for node := -1; node <= x.s.nodes; node++ {
		if got := x.b.For(node); !slices.Equal(got, want[node]) {
			t.Fatal("for", node, ":", got, "and not", want[node])
		}
	}
}

// drain takes all that is left.
func (x *both) drain(t *testing.T) {
	t.Helper()
	for x.b.Len() > 0 {
		x.take(t, x.b.Len()/2)
	}
	x.take(t, 0)
	x.asks(t)
}

// --- P17.4

// TestP174AllShort: each short row of calls.
func TestP174AllShort(t *testing.T) {
	calls := []func(t *testing.T, x *both, step int){
		func(t *testing.T, x *both, step int) { x.put(t, message(0, 1, step)) },
		func(t *testing.T, x *both, step int) { x.put(t, message(1, 0, step)) },
		func(t *testing.T, x *both, step int) { x.take(t, 0) },
		func(t *testing.T, x *both, step int) { x.take(t, 1) },
		func(t *testing.T, x *both, step int) { x.copy(t, 0) },
		func(t *testing.T, x *both, step int) { x.copy(t, 1) },
		func(t *testing.T, x *both, step int) { x.tick(t, 0) },
		func(t *testing.T, x *both, step int) { x.tick(t, 1) },
		func(t *testing.T, x *both, step int) { x.tick(t, 2) },
	}
	const steps = 5
	rows := 1
	for range steps {
		rows *= len(calls)
	}
	for row := range rows {
		x := twin(t, 2)
		for step, left := 0, row; step < steps; step++ {
			calls[left%len(calls)](t, x, step)
			left /= len(calls)
		}
		x.asks(t)
		x.drain(t)
	}
}

// history does this and that by chance, so many of a hundred times a put; how often what came up.
func history(t *testing.T, seed int64, steps, puts int) map[string]int {
	t.Helper()
	chance := rand.New(rand.NewSource(seed))
	nodes := 1 + chance.Intn(64)
	x := twin(t, nodes)
	for range steps {
		i := chance.Intn(x.b.Len()+3) - 1
		switch what := chance.Intn(100); {
		case what < puts:
			m := bag.Message{From: chance.Intn(nodes), To: chance.Intn(nodes), Bytes: make([]byte, chance.Intn(12))}
			chance.Read(m.Bytes)
			x.put(t, m)
			clear(m.Bytes)
		case what < puts+5:
			x.put(t, message(chance.Intn(nodes+2)-1, chance.Intn(nodes+2)-1, what))
		case what < puts+20:
			x.copy(t, i)
		case what < 95:
			x.take(t, i)
		default:
			// The more are put, the longer they stay.
			x.tick(t, chance.Intn(puts)-1)
		}
		x.asks(t)
	}
	x.drain(t)
	return x.n
}

func TestP174Histories(t *testing.T) {
	n := map[string]int{}
	for seed := range 70 {
		for what, times := range history(t, int64(seed), 1500, 1+seed) {
			n[what] += times
		}
	}
	for _, what := range []string{"put 0", "put 1", "put 31", "copy 0", "copy 14", "copy 31", "take true", "take false", "tick: none", "tick: some", "tick: all"} {
		if n[what] < 50 {
			t.Error(what, "comes up", n[what], "times:", n)
		}
	}
}

// TestP174Accounts: what was taken, went or is there was put, or copied, each time once.
func TestP174Accounts(t *testing.T) {
	chance := rand.New(rand.NewSource(5))
	b := fresh(t, 64)
	in, out, went := map[string]int{}, map[string]int{}, 0
	kept := map[string]bag.Message{}
	var texts []string // of those that are there, in order, as far as it is known
	for k := range 30000 {
		if n := b.Len(); n != len(texts) || n > many {
			t.Fatal(k, n, len(texts))
		}
		i := chance.Intn(many)
		switch chance.Intn(5) {
		case 0, 1:
			m := message(k%64, k/64%64, k)
			if b.Put(m) == api.OK {
				kept[string(m.Bytes)] = m
				in[string(m.Bytes)]++
				texts = append(texts, string(m.Bytes))
			}
		case 2:
			if b.Copy(i) == api.OK {
				in[texts[i]]++
				texts = append(texts, texts[i])
			}
		case 3:
			if m, is := b.Take(i); is {
				if !same(m, kept[string(m.Bytes)]) {
					t.Fatal("what was taken was never put:", m)
				}
				out[string(m.Bytes)]++
				texts = slices.Delete(texts, i, i+1)
			}
		default:
			n := b.Tick(600 + chance.Intn(3))
			went += n
			// The oldest ones stand in front.
			texts = texts[n:]
		}
	}
	if went == 0 {
		t.Error("none went")
	}
	for b.Len() > 0 {
		m, _ := b.Take(0)
		out[string(m.Bytes)]++
	}
	all := 0
	for text, n := range in {
		all += n
		if out[text] > n {
			t.Error(text, "was taken", out[text], "times, and put or copied", n)
		}
		all -= out[text]
	}
	if all != went {
		t.Error(all, "are neither taken nor there, and", went, "went")
	}
}

// TestP174NeverMore: however it is asked for.
func TestP174NeverMore(t *testing.T) {
	b := of(t, 1)
	for k := range 2000 {
		b.Put(some(k))
		b.Copy(k % many)
		b.Copy(0)
		if k%300 == 299 {
			b.Tick(4)
		}
		if b.Len() > many {
			t.Fatal(k, b.Len())
		}
	}
	if b.Len() != many {
		t.Error(b.Len())
	}
}

// --- what is handed in stays, and what is told is in memory of its own

func TestStays(t *testing.T) {
	roomy := append(make([]byte, 0, 400), "a message's bytes"...)
	whole := roomy[:400]
	for i := len(roomy); i < len(whole); i++ {
		whole[i] = 9
	}
	was := bytes.Clone(whole)
	b := fresh(t, 2)
	for _, m := range []bag.Message{{Bytes: roomy}, {From: 1, To: 1, Bytes: roomy[2:5]}, {To: 2, Bytes: roomy}, {From: -1, Bytes: roomy}} {
		given := m
		b.Put(m)
		b.Copy(0)
		b.Tick(3)
		got, _ := b.Take(0)
		clear(got.Bytes)
		_ = append(got.Bytes, 1, 2, 3)
		if !same(m, given) || !bytes.Equal(whole, was) {
			t.Error("what is handed in was changed")
		}
	}
	big := bytes.Repeat([]byte{7}, mostBytes+1)
	b.Put(bag.Message{Bytes: big})
	if !bytes.Equal(big, bytes.Repeat([]byte{7}, mostBytes+1)) {
		t.Error("what is refused was changed")
	}
}

// TestNotKept: what was put is what it was then, whatever becomes of the bytes that were handed in.
func TestNotKept(t *testing.T) {
	b := fresh(t, 2)
	row := []byte("one")
	m := bag.Message{To: 1, Bytes: row}
	puts(t, b, m)
	copy(row, "two")
	m.From, m.To = 1, 0
	puts(t, b, m)
	copies(t, b, 0)
	clear(row)
	holds(t, b, bag.Message{To: 1, Bytes: []byte("one")}, bag.Message{From: 1, Bytes: []byte("two")}, bag.Message{To: 1, Bytes: []byte("one")})
}

// TestPassedOn: what was taken from one bag and put into another one, or again, is between them no more.
func TestPassedOn(t *testing.T) {
	a, b := of(t, 3), fresh(t, 3)
	m, _ := a.Take(1)
	puts(t, a, m)
	puts(t, b, m, m)
	got, _ := b.Take(0)
	clear(got.Bytes)
	clear(m.Bytes)
	holds(t, a, some(0), some(2), some(1))
	holds(t, b, some(1))
}

// TestNoStateOfItsOwn: two bags, by turns, answer as each one does alone.
func TestNoStateOfItsOwn(t *testing.T) {
	for range 2 {
		x, y := twin(t, 2), twin(t, 5)
		for k := range 400 {
			x.put(t, message(k%2, 0, k))
			y.put(t, message(4, k%6, k))
			if k%3 == 0 {
				x.copy(t, k%7)
				y.take(t, k%5)
			}
			if k%10 == 0 {
				x.tick(t, 20)
			}
			x.asks(t)
			y.asks(t)
		}
		y.tick(t, 1)
		x.drain(t)
		y.drain(t)
	}
}
