package blocks_test

import (
	"bytes"
	"math"
	"math/rand"
	"testing"

	"bailee/api"
	"bailee/blocks"
)

// sizes are how many blocks disks may have: ordinary ones, and the edges.
var sizes = []int{1, 2, 3, 7, 64, 65535, 65536}

// torns are how many bytes of the write at which a disk stops may be asked for, and how many are laid.
var torns = []struct{ asked, laid int }{
	{0, 0}, {1, 1}, {2, 2}, {8, 8}, {63, 63}, {64, 64}, {65, 65}, {120, 120}, {127, 127}, {128, 128},
	{-1, 0}, {-128, 0}, {math.MinInt, 0}, {129, 128}, {256, 128}, {math.MaxInt, 128},
}

// nowhere are places that a disk of so many blocks hasn't.
func nowhere(n int) []int {
	return []int{-1, -2, -n, math.MinInt, n, n + 1, 2*n + 1, 65537, math.MaxInt}
}

// misfits are rows that have not just the bytes of a block.
func misfits() [][]byte {
	l := [][]byte{nil, {}}
	for _, n := range []int{1, 64, 127, 129, 256, 65536} {
		l = append(l, bytes.Repeat([]byte{7}, n))
	}
	return append(l, make([]byte, 127, 128), make([]byte, 0, 128))
}

// noughts are the bytes of a block of a new disk.
func noughts() []byte { return make([]byte, 128) }

// full are the bytes of a block, none of them 0, and each unlike those that stand beside it and at its place in others of a few seeds.
func full(seed int) []byte {
	b := make([]byte, 128)
	for i := range b {
		b[i] = byte(1 + (i*7+seed*31)%251)
	}
	return b
}

// torn are a block's bytes, the first ones of them another's.
func torn(was, b []byte, laid int) []byte {
	return append(bytes.Clone(b[:laid]), was[laid:]...)
}

// disk is a new one, of so many blocks.
func disk(t *testing.T, n int) *blocks.Disk {
	t.Helper()
	d, err := blocks.New(n)
	if err != api.OK || d == nil {
		t.Fatal(n, err)
	}
	return d
}

// filled is a disk whose i-th block is full(i).
func filled(t *testing.T, n int) *blocks.Disk {
	t.Helper()
	d := disk(t, n)
	for i := range n {
		writes(t, d, i, full(i))
	}
	return d
}

// writes writes a block, which must be done.
func writes(t *testing.T, d *blocks.Disk, i int, b []byte) {
	t.Helper()
	if err := d.Write(i, b); err != api.OK {
		t.Fatal("write of", i, err)
	}
}

// refused asks for a write that must be refused.
func refused(t *testing.T, d *blocks.Disk, i int, b []byte, want api.Errno) {
	t.Helper()
	if err := d.Write(i, b); err != want {
		t.Error("write of", i, "of", len(b), "bytes:", err, "and not", want)
	}
}

// has fails unless the i-th block has these bytes.
func has(t *testing.T, d *blocks.Disk, i int, want []byte) {
	t.Helper()
	if b, err := d.Read(i); err != api.OK || !bytes.Equal(b, want) {
		t.Errorf("block %d: %v\n%v\nand not\n%v", i, err, b, want)
	}
}

// hides fails unless no block is told but this error.
func hides(t *testing.T, d *blocks.Disk, i int, want api.Errno) {
	t.Helper()
	if b, err := d.Read(i); err != want || len(b) != 0 {
		t.Error("block", i, err, len(b), "and not", want)
	}
}

// --- P8.1: New, Len, Read

func TestP81NewTakes(t *testing.T) {
	for _, n := range sizes {
		d := disk(t, n)
		if d.Len() != n || d.Down() {
			t.Error(n, d.Len(), d.Down())
		}
	}
}

func TestP81NewRefuses(t *testing.T) {
	for _, n := range []int{0, -1, -2, -65536, math.MinInt, 65537, 65538, 1 << 20, math.MaxInt} {
		if d, err := blocks.New(n); err != api.ErrArg || d != nil {
			t.Error(n, d != nil, err)
		}
	}
}

func TestP81NewIsOfNoughts(t *testing.T) {
	for _, n := range sizes {
		d := disk(t, n)
		for i := range n {
			has(t, d, i, noughts())
			if t.Failed() {
				t.FailNow()
			}
		}
	}
}

// Nothing is kept of a disk that was there earlier.
func TestP81NewIsItsOwn(t *testing.T) {
	d := filled(t, 5)
	d.Stop(1, 9)
	e := disk(t, 5)
	for i := range 5 {
		has(t, e, i, noughts())
	}
	for i := range 5 {
		writes(t, e, i, full(9))
	}
	for i := range 5 {
		has(t, d, i, full(i))
	}
	writes(t, d, 0, full(0))
	refused(t, d, 0, full(0), api.ErrDown)
	if e.Down() || !d.Down() {
		t.Error(e.Down(), d.Down())
	}
}

func TestP81ReadTells(t *testing.T) {
	d := filled(t, 200)
	for i := range 200 {
		has(t, d, i, full(i))
	}
	has(t, d, 3, full(3))
}

func TestP81ReadOfNowhere(t *testing.T) {
	for _, n := range sizes {
		d := disk(t, n)
		for _, i := range nowhere(n) {
			hides(t, d, i, api.ErrRange)
		}
		has(t, d, 0, noughts())
		has(t, d, n-1, noughts())
	}
}

// What is down tells that ahead of anything else, and how many blocks there are all the same.
func TestP81ReadOfDown(t *testing.T) {
	d := filled(t, 4)
	d.Stop(0, 5)
	refused(t, d, 2, full(8), api.ErrDown)
	for _, i := range append(nowhere(4), 0, 1, 2, 3) {
		hides(t, d, i, api.ErrDown)
	}
	if d.Len() != 4 {
		t.Error(d.Len())
	}
}

func TestP81ReadInNewMemory(t *testing.T) {
	d := filled(t, 3)
	one, _ := d.Read(1)
	other, _ := d.Read(1)
	clear(one)
	if !bytes.Equal(other, full(1)) {
		t.Error("two answers share memory")
	}
	_ = append(other[:100], 77, 77)
	_ = append(other, 77, 77)
	for i := range 3 {
		has(t, d, i, full(i))
	}
}

// What was read is what stood there then.
func TestP81ReadStaysAsItWas(t *testing.T) {
	d := filled(t, 3)
	was, _ := d.Read(1)
	writes(t, d, 1, full(20))
	d.Stop(0, 64)
	refused(t, d, 1, full(30), api.ErrDown)
	if !bytes.Equal(was, full(1)) {
		t.Error("an answer changes with the disk")
	}
}

func TestP81ReadChangesNothing(t *testing.T) {
	d := filled(t, 2)
	d.Stop(1, 3)
	for range 10 {
		has(t, d, 0, full(0))
		has(t, d, 1, full(1))
		hides(t, d, 2, api.ErrRange)
	}
	if d.Down() || d.Len() != 2 {
		t.Error(d.Down(), d.Len())
	}
	writes(t, d, 0, full(5))
	refused(t, d, 1, full(6), api.ErrDown)
}

// --- P8.2: Write

func TestP82WriteLays(t *testing.T) {
	for _, n := range sizes {
		d := disk(t, n)
		for _, i := range []int{0, n / 2, n - 1} {
			for k := range 4 {
				writes(t, d, i, full(i+k))
				has(t, d, i, full(i+k))
			}
			writes(t, d, i, noughts())
			has(t, d, i, noughts())
			writes(t, d, i, full(i))
		}
	}
}

func TestP82WriteOfNowhere(t *testing.T) {
	for _, n := range []int{1, 2, 5, 65536} {
		d := disk(t, n)
		for _, i := range nowhere(n) {
			refused(t, d, i, full(1), api.ErrRange)
			for _, b := range misfits() {
				refused(t, d, i, b, api.ErrRange)
			}
		}
		for _, i := range []int{0, n / 2, n - 1} {
			has(t, d, i, noughts())
		}
	}
}

func TestP82WriteOfMisfits(t *testing.T) {
	d := filled(t, 3)
	for i := range 3 {
		for _, b := range misfits() {
			refused(t, d, i, b, api.ErrArg)
		}
	}
	for i := range 3 {
		has(t, d, i, full(i))
	}
	if d.Down() {
		t.Error("a write that was refused lets it stop")
	}
}

func TestP82WriteOfDown(t *testing.T) {
	d := filled(t, 3)
	d.Stop(0, 0)
	refused(t, d, 0, full(9), api.ErrDown)
	for range 3 {
		for _, i := range append(nowhere(3), 0, 1, 2) {
			for _, b := range append(misfits(), full(9)) {
				refused(t, d, i, b, api.ErrDown)
			}
		}
	}
	d.Restart()
	for i := range 3 {
		has(t, d, i, full(i))
	}
}

func TestP82WriteIsTorn(t *testing.T) {
	for _, k := range torns {
		for at := range 3 {
			d := filled(t, 3)
			d.Stop(0, k.asked)
			refused(t, d, at, full(50), api.ErrDown)
			if !d.Down() {
				t.Error(k, "it isn't down")
			}
			d.Restart()
			for i := range 3 {
				want := full(i)
				if i == at {
					want = torn(want, full(50), k.laid)
				}
				has(t, d, i, want)
			}
		}
	}
}

func TestP82WriteIsTornAnywhere(t *testing.T) {
	for laid := 0; laid <= 128; laid++ {
		d := disk(t, 2)
		writes(t, d, 1, full(laid))
		d.Stop(0, laid)
		refused(t, d, 1, full(laid+1), api.ErrDown)
		d.Restart()
		has(t, d, 0, noughts())
		has(t, d, 1, torn(full(laid), full(laid+1), laid))
	}
}

// What is refused isn't the write at which it stops: that one comes later.
func TestP82RefusedIsNotTorn(t *testing.T) {
	d := filled(t, 3)
	d.Stop(0, 40)
	for range 3 {
		for _, i := range nowhere(3) {
			refused(t, d, i, full(9), api.ErrRange)
		}
		for _, b := range misfits() {
			refused(t, d, 1, b, api.ErrArg)
		}
	}
	if d.Down() {
		t.Error("a write that was refused lets it stop")
	}
	for i := range 3 {
		has(t, d, i, full(i))
	}
	refused(t, d, 1, full(60), api.ErrDown)
	d.Restart()
	has(t, d, 1, torn(full(1), full(60), 40))
}

// --- P8.3: Stop, Restart, Down

func TestP83StopAfter(t *testing.T) {
	for after := range 40 {
		for _, k := range torns {
			d := disk(t, 4)
			d.Stop(after, k.asked)
			for w := range after {
				if d.Down() {
					t.Fatal(after, "down ahead of write", w)
				}
				writes(t, d, w%4, full(w))
			}
			if d.Down() {
				t.Error(after, "down ahead of the write at which it stops")
			}
			refused(t, d, after%4, full(after), api.ErrDown)
			if !d.Down() {
				t.Error(after, "it isn't down")
			}
		}
	}
}

// Only writes that are done are counted.
func TestP83StopCountsWhatIsDone(t *testing.T) {
	for after := range 6 {
		d := disk(t, 3)
		d.Stop(after, 128)
		for w := range after {
			refused(t, d, 3, full(1), api.ErrRange)
			refused(t, d, -1, full(1), api.ErrRange)
			refused(t, d, 0, full(1)[:127], api.ErrArg)
			hides(t, d, 3, api.ErrRange)
			writes(t, d, 0, full(w))
		}
		refused(t, d, 3, full(1), api.ErrRange)
		refused(t, d, 0, nil, api.ErrArg)
		refused(t, d, 0, full(1), api.ErrDown)
	}
}

func TestP83StopNever(t *testing.T) {
	for _, after := range []int{-1, -2, -100, math.MinInt} {
		d := disk(t, 2)
		d.Stop(after, 17)
		for w := range 300 {
			writes(t, d, w%2, full(w))
		}
		has(t, d, 1, full(299))
		if d.Down() {
			t.Error(after)
		}
	}
}

func TestP83NewNeverStops(t *testing.T) {
	d := disk(t, 2)
	for w := range 70000 {
		writes(t, d, w%2, full(w))
	}
	if d.Down() {
		t.Error("it stopped")
	}
}

func TestP83StopFarOff(t *testing.T) {
	d := disk(t, 2)
	d.Stop(math.MaxInt, 17)
	for w := range 300 {
		writes(t, d, w%2, full(w))
	}
	d.Stop(70000, 17)
	for w := range 70000 {
		writes(t, d, w%2, full(w))
	}
	refused(t, d, 0, full(3), api.ErrDown)
}

// The last Stop alone counts: nothing of one ahead of it.
func TestP83StopAnew(t *testing.T) {
	for _, k := range []struct{ first, done, then int }{
		{0, 0, -1}, {0, 0, 3}, {5, 2, 5}, {5, 5, 1}, {5, 3, 0}, {2, 2, -7}, {-1, 4, 2}, {1, 0, 9},
	} {
		d := filled(t, 2)
		d.Stop(k.first, 100)
		for w := range k.done {
			writes(t, d, 0, full(w))
		}
		d.Stop(k.then, 3)
		if k.then < 0 {
			for w := range 50 {
				writes(t, d, 0, full(w))
			}
			continue
		}
		for w := range k.then {
			writes(t, d, 0, full(w))
		}
		refused(t, d, 1, full(90), api.ErrDown)
		d.Restart()
		has(t, d, 1, torn(full(1), full(90), 3))
	}
}

func TestP83Restart(t *testing.T) {
	d := filled(t, 3)
	d.Stop(1, 30)
	writes(t, d, 0, full(40))
	refused(t, d, 1, full(41), api.ErrDown)
	d.Restart()
	if d.Down() || d.Len() != 3 {
		t.Error(d.Down(), d.Len())
	}
	has(t, d, 0, full(40))
	has(t, d, 1, torn(full(1), full(41), 30))
	has(t, d, 2, full(2))
	for w := range 300 {
		writes(t, d, w%3, full(w))
	}
	for i := range 3 {
		has(t, d, i, full(297+i))
	}
}

// Restart of what is up lets it not stop any more.
func TestP83RestartOfUp(t *testing.T) {
	for after := range 4 {
		d := filled(t, 3)
		d.Stop(after, 30)
		d.Restart()
		d.Restart()
		if d.Down() {
			t.Error("down")
		}
		for i := range 3 {
			has(t, d, i, full(i))
		}
		for w := range 20 {
			writes(t, d, w%3, full(w))
		}
	}
}

// What is down stays so, whatever Stop is told, until Restart; and behind that it doesn't stop.
func TestP83StopOfDown(t *testing.T) {
	for _, after := range []int{math.MinInt, -1, 0, 1, 5} {
		d := filled(t, 3)
		d.Stop(0, 10)
		refused(t, d, 1, full(41), api.ErrDown)
		d.Stop(after, 99)
		if !d.Down() {
			t.Error(after, "it is up")
		}
		hides(t, d, 1, api.ErrDown)
		for range 7 {
			refused(t, d, 1, full(42), api.ErrDown)
		}
		d.Restart()
		has(t, d, 1, torn(full(1), full(41), 10))
		for w := range 20 {
			writes(t, d, w%3, full(w))
		}
	}
}

func TestP83StopAgainBehindRestart(t *testing.T) {
	d := filled(t, 2)
	was := full(1)
	for k := range 20 {
		d.Stop(k%3, 5*k)
		for w := range k % 3 {
			writes(t, d, 0, full(w))
		}
		refused(t, d, 1, full(50+k), api.ErrDown)
		d.Restart()
		was = torn(was, full(50+k), 5*k)
		has(t, d, 1, was)
	}
}

func TestP83OfNil(t *testing.T) {
	var d *blocks.Disk
	for range 2 {
		if d.Len() != 0 || d.Down() {
			t.Error(d.Len(), d.Down())
		}
		for _, i := range append(nowhere(1), 0) {
			hides(t, d, i, api.ErrArg)
			for _, b := range append(misfits(), full(1)) {
				refused(t, d, i, b, api.ErrArg)
			}
		}
		d.Stop(0, 5)
		d.Stop(-1, 0)
		d.Restart()
	}
}

// A disk that New didn't make: no call panics.
func TestP83OfNone(t *testing.T) {
	d := &blocks.Disk{}
	for _, i := range append(nowhere(1), 0) {
		d.Read(i)
		d.Write(i, full(1))
		d.Write(i, nil)
		d.Stop(i, i)
	}
	d.Restart()
	d.Len()
	d.Down()
}

// --- P8.4: what follows

// Wherever it stops, what was told to be done is there, and what wasn't written to is as it was.
func TestP84WhatIsThere(t *testing.T) {
	const n, many = 7, 15
	for after := 0; after <= many; after++ {
		for _, k := range torns {
			d := filled(t, n)
			d.Stop(after, k.asked)
			var want [n][]byte
			for i := range want {
				want[i] = full(i)
			}
			for w := range many {
				// The last two blocks aren't written to.
				at, b := w%(n-2), full(100+w)
				switch err := d.Write(at, b); {
				case err == api.OK:
					want[at] = b
				case w == after:
					want[at] = torn(want[at], b, k.laid)
				}
			}
			if d.Down() != (after < many) {
				t.Error(after, d.Down())
			}
			d.Restart()
			for i := range want {
				has(t, d, i, want[i])
			}
			if t.Failed() {
				t.Fatal(after, k)
			}
		}
	}
}

func TestP84OthersStay(t *testing.T) {
	const n = 40
	d := filled(t, n)
	for at := range n {
		writes(t, d, at, full(200))
		for i := range n {
			want := full(i)
			if i == at {
				want = full(200)
			}
			has(t, d, i, want)
		}
		writes(t, d, at, full(at))
	}
}

// story is all that a disk of n blocks was told that counts: of each byte the last one that came to it, and when it stops.
type story struct {
	n    int
	came map[int]byte // by place on the whole disk
	done int          // writes that were done
	stop int          // that many writes must have been done for the next one to be torn; below 0: none is
	torn int
	down bool
}

func (s *story) write(i int, b []byte) api.Errno {
	err := s.lacks(i)
	if err == api.OK && len(b) != 128 {
		err = api.ErrArg
	}
	if err != api.OK {
		return err
	}
	many := 128
	if s.done == s.stop {
		many, s.down = s.torn, true
	} else {
		s.done++
	}
	for k := range many {
		s.came[128*i+k] = b[k]
	}
	if s.down {
		return api.ErrDown
	}
	return api.OK
}

func (s *story) lacks(i int) api.Errno {
	if s.down {
		return api.ErrDown
	}
	if i < 0 || i > s.n-1 {
		return api.ErrRange
	}
	return api.OK
}

func (s *story) read(i int) ([]byte, api.Errno) {
	if err := s.lacks(i); err != api.OK {
		return nil, err
	}
	b := noughts()
	for k := range b {
		b[k] = s.came[128*i+k]
	}
	return b, api.OK
}

func (s *story) stops(after, torn int) {
	s.stop, s.torn = -1, torn
	if after >= 0 {
		s.stop = s.done + after
	}
}

// Whatever is asked, in whatever order, the answers are those of the promises' words.
func TestP84AnyOrder(t *testing.T) {
	for seed := range 60 {
		r := rand.New(rand.NewSource(int64(seed)))
		n := 1 + r.Intn(6)
		d, s := disk(t, n), &story{n: n, came: map[int]byte{}, stop: -1}
		for step := range 400 {
			i := r.Intn(n+2) - 1
			switch r.Intn(12) {
			case 0:
				k := torns[r.Intn(len(torns))]
				after := r.Intn(8) - 2
				d.Stop(after, k.asked)
				s.stops(after, k.laid)
			case 1:
				if r.Intn(3) == 0 || s.down {
					d.Restart()
					s.stop, s.down = -1, false
				}
			case 2, 3, 4:
				want, wanted := s.read(i)
				if b, err := d.Read(i); err != wanted || !bytes.Equal(b, want) {
					t.Fatal(seed, step, i, err, b, want)
				}
			case 5:
				b := misfits()[r.Intn(len(misfits()))]
				refused(t, d, i, b, s.write(i, b))
			default:
				b := make([]byte, 128)
				r.Read(b)
				want := s.write(i, b)
				if err := d.Write(i, b); err != want {
					t.Fatal(seed, step, i, err, want)
				}
			}
			if d.Down() != s.down || d.Len() != n {
				t.Fatal(seed, step, d.Down(), d.Len())
			}
		}
	}
}

// --- what is handed in

func TestStays(t *testing.T) {
	d := disk(t, 3)
	b := full(5)
	roomy := append(make([]byte, 0, 400), b...)
	behind := roomy[128:400]
	copy(behind, bytes.Repeat([]byte{9}, len(behind)))
	for _, after := range []int{-1, 0, 1} {
		d.Stop(after, 77)
		for _, i := range []int{-1, 0, 1, 2, 3} {
			d.Write(i, roomy)
			d.Read(i)
		}
		d.Restart()
	}
	if !bytes.Equal(roomy, b) || !bytes.Equal(behind, bytes.Repeat([]byte{9}, len(behind))) {
		t.Error("what is handed in was changed")
	}
	for _, row := range misfits() {
		was := bytes.Clone(row)
		d.Write(1, row)
		if !bytes.Equal(row, was) {
			t.Error("what is handed in was changed", len(was))
		}
	}
}

func TestNotKept(t *testing.T) {
	d := disk(t, 3)
	b := full(5)
	writes(t, d, 0, b)
	writes(t, d, 2, b)
	d.Stop(0, 50)
	refused(t, d, 1, b, api.ErrDown)
	clear(b)
	d.Restart()
	has(t, d, 0, full(5))
	has(t, d, 1, torn(noughts(), full(5), 50))
	has(t, d, 2, full(5))
}

// What is read from one disk and written to another one is not between them.
func TestNotShared(t *testing.T) {
	d, e := filled(t, 2), disk(t, 2)
	b, _ := d.Read(1)
	writes(t, e, 0, b)
	writes(t, d, 0, b)
	writes(t, e, 0, full(8))
	has(t, d, 0, full(1))
	has(t, d, 1, full(1))
	has(t, e, 0, full(8))
	if !bytes.Equal(b, full(1)) {
		t.Error("an answer changes with a disk")
	}
}
