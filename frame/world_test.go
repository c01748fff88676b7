package frame_test

import (
	"bytes"
	"math"
	"slices"
	"testing"

	"citadel/api"
	"citadel/frame"
	"citadel/ram"
)

const (
	page    = api.PageSize
	devices = uint64(1) << 63
)

// owners are all that a frame may have, counted up from the lowest.
var owners = []int{api.Limbo, api.Monitor, api.Free, 1, 2, 3, 4, 5, 6, 7, api.MaxGuests}

// takers are the owners for whom frames are taken.
var takers = []int{api.Monitor, 1, 2, 3, 4, 5, 6, 7, api.MaxGuests}

// nobodies are numbers that are no owner's.
var nobodies = []int{api.MaxGuests + 1, api.MaxGuests + 2, api.Limbo - 1, api.Limbo - 2, -api.MaxGuests, 1 << 32, 1<<32 + 1, -1 << 32, math.MinInt, math.MaxInt}

// world is a pool under test, and the memory that it was handed. Behind each call the counts must add up.
type world struct {
	t *testing.T
	*frame.Pool
	m *ram.RAM
}

// memory is a memory whose every byte is written, and none of them 0.
func memory(t *testing.T, base uint64, frames int) *ram.RAM {
	t.Helper()
	m, e := ram.New(base, frames)
	if e != api.OK {
		t.Fatal(e)
	}
	b := make([]byte, frames*page)
	for i := range b {
		b[i] = byte(i%251 + 1)
	}
	m.Fill(base, b)
	return m
}

// over is a pool over a memory.
func over(t *testing.T, m *ram.RAM, reserved, harts int) *world {
	t.Helper()
	p, e := frame.New(m, reserved, harts)
	if p == nil || e != api.OK {
		t.Fatalf("P9.1: New of %d frames, %d, %d: %v, %d", m.Frames(), reserved, harts, p, e)
	}
	w := &world{t, p, m}
	w.adds()
	return w
}

// newWorld is a pool over a memory of its own, which nobody wrote.
func newWorld(t *testing.T, frames, reserved, harts int) *world {
	t.Helper()
	m, e := ram.New(5*page, frames)
	if e != api.OK {
		t.Fatal(e)
	}
	return over(t, m, reserved, harts)
}

// adds fails if the counts do not add up to all frames, are not those of the frames' owners, or if a frame waits that is not in limbo, or is there and waits for nothing.
func (w *world) adds() {
	w.t.Helper()
	of, sum := map[int]int{}, 0
	for f := range w.m.Frames() {
		owner := w.Owner(f)
		if !slices.Contains(owners, owner) {
			w.t.Fatalf("P9.4: frame %d has the owner %d", f, owner)
		}
		if (w.Waits(f) != 0) != (owner == api.Limbo) {
			w.t.Fatalf("P9.3: frame %d of %d waits for %#x", f, owner, w.Waits(f))
		}
		of[owner]++
	}
	for _, owner := range owners {
		if w.Count(owner) != of[owner] {
			w.t.Fatalf("P9.1: Count(%d) = %d, not %d", owner, w.Count(owner), of[owner])
		}
		sum += w.Count(owner)
	}
	if sum != w.m.Frames() {
		w.t.Fatalf("P9.4: counts add up to %d of %d", sum, w.m.Frames())
	}
}

// Take, Release, Ack and AckDevices are the pool's, with a look at the counts behind each.
func (w *world) Take(owner int) (int, api.Errno) {
	w.t.Helper()
	f, e := w.Pool.Take(owner)
	w.adds()
	return f, e
}

func (w *world) Release(f int) api.Errno {
	w.t.Helper()
	e := w.Pool.Release(f)
	w.adds()
	return e
}

func (w *world) Ack(hart int) int {
	w.t.Helper()
	n := w.Pool.Ack(hart)
	w.adds()
	return n
}

func (w *world) AckDevices() int {
	w.t.Helper()
	n := w.Pool.AckDevices()
	w.adds()
	return n
}

// gives fails if Take does not give that frame.
func (w *world) gives(owner, want int) {
	w.t.Helper()
	if f, e := w.Take(owner); f != want || e != api.OK {
		w.t.Fatalf("P9.2: Take(%d) = %d, %d, not %d", owner, f, e, want)
	}
	if w.Owner(want) != owner || w.Waits(want) != 0 {
		w.t.Fatalf("P9.2: frame %d, taken for %d, has %d and waits for %#x", want, owner, w.Owner(want), w.Waits(want))
	}
}

// lets fails if a frame is not released.
func (w *world) lets(f int) {
	w.t.Helper()
	if e := w.Release(f); e != api.OK || w.Owner(f) != api.Limbo {
		w.t.Fatalf("P9.2: Release(%d) = %d, and it has %d", f, e, w.Owner(f))
	}
}

// everybody is what a frame waits for that was released just now.
func everybody(harts int) uint64 { return uint64(1)<<harts - 1 | devices }

// freed fails if an acknowledgement (of a hart, or of the devices: who is the number of harts) does not free so many.
func (w *world) freed(who, harts, want int) {
	w.t.Helper()
	n := 0
	if who == harts {
		n = w.AckDevices()
	} else {
		n = w.Ack(who)
	}
	if n != want {
		w.t.Fatalf("P9.3: an acknowledgement of %d frees %d, not %d", who, n, want)
	}
}

// round has all acknowledge; the last one must free so many, and none ahead of it any.
func (w *world) round(harts, want int) {
	w.t.Helper()
	for who := range harts {
		w.freed(who, harts, 0)
	}
	w.freed(harts, harts, want)
}

// all are the memory's bytes.
func (w *world) all() []byte {
	w.t.Helper()
	b, ok := w.m.Bytes(w.m.Base(), w.m.Frames()*page)
	if !ok {
		w.t.Fatal("the memory has lost bytes")
	}
	return b
}

// frame are a frame's bytes.
func (w *world) frame(f int) []byte { return w.all()[f*page : (f+1)*page] }

// mark writes all bytes of a frame.
func (w *world) mark(f int, b byte) {
	w.t.Helper()
	if !w.m.Fill(w.m.Base()+uint64(f)*page, bytes.Repeat([]byte{b}, page)) {
		w.t.Fatalf("no frame %d", f)
	}
}

// holds fails if a frame's bytes are not all that one.
func (w *world) holds(promise string, f int, b byte) {
	w.t.Helper()
	if !bytes.Equal(w.frame(f), bytes.Repeat([]byte{b}, page)) {
		w.t.Fatalf("%s: not all bytes of frame %d are %#x", promise, f, b)
	}
}

// shot is all that can be told of a pool and its memory.
type shot struct {
	owners, counts []int
	waits          []uint64
	bytes          []byte
}

func (w *world) shot() shot {
	w.t.Helper()
	s := shot{bytes: w.all()}
	for f := -2; f < w.m.Frames()+2; f++ {
		s.owners = append(s.owners, w.Owner(f))
		s.waits = append(s.waits, w.Waits(f))
	}
	for _, owner := range append(slices.Clone(owners), nobodies...) {
		s.counts = append(s.counts, w.Count(owner))
	}
	return s
}

// still fails if anything has changed.
func (w *world) still(promise string, was shot) {
	w.t.Helper()
	now := w.shot()
	if !slices.Equal(now.owners, was.owners) || !slices.Equal(now.counts, was.counts) || !slices.Equal(now.waits, was.waits) {
		w.t.Fatalf("%s: owners, counts, bits are %v, %v, %x; they were %v, %v, %x", promise, now.owners, now.counts, now.waits, was.owners, was.counts, was.waits)
	}
	if !bytes.Equal(now.bytes, was.bytes) {
		w.t.Fatalf("%s: bytes have changed", promise)
	}
}

// notFrames are numbers of no frame, where there are so many.
func notFrames(frames int) []int {
	return []int{-1, -2, -frames, -frames - 1, frames, frames + 1, 2 * frames, api.MaxFrames, api.MaxFrames + 1, 1 << 32, 1<<32 + 1, -1 << 32, math.MinInt, math.MaxInt}
}

// notHarts are numbers of no hart, where there are so many: those up to MaxHarts among them, and that of the devices' bit.
func notHarts(harts int) []int {
	none := []int{-1, -2, -harts, -64, -63, -1 << 32, math.MinInt, math.MinInt + 1, 61, 62, 63, 64, 65, 127, 128, 1 << 32, 1<<32 + 1, math.MaxInt}
	for h := harts; h <= api.MaxHarts+1; h++ {
		none = append(none, h)
	}
	return none
}
