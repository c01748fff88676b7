package engine_test

import (
	"testing"

	"citadel/api"
	"citadel/engine"
	"citadel/iommu"
)

// The chapter's examples.
func TestExamples(t *testing.T) {
	m := memory(t, 0)
	e := engine.Flat(m)
	w := &world{t: t, m: m, Engine: e}
	w.begin(copying{src: 0x1000, dst: 0x2000, len: 16})
	w.is("P8.1", running)
	e.Step()
	e.Step()
	w.is("P8.2", done)
	w.ready(copying{src: 0x1000, dst: 0x2000, len: 12})
	w.set(control, 1)
	w.is("P8.1", failed)
	u, _ := iommu.New(m, 1)
	w.Engine, _ = engine.New(1, m, u)
	w.begin(copying{src: 0x1000, dst: 0x2000, len: 16})
	w.Step()
	w.is("P8.2", failed)
}

// P8.2, P8.3: a copy turns the next 8 bytes with each step, and is done with the last of them; one more step does
// nothing. It ends behind at most PageSize / 8 steps.
func TestCopy(t *testing.T) {
	each(t, func(w *world) {
		for _, n := range []uint64{8, 16, 24, 2040, size - 8, size} {
			for at := range uint64(size / 8) {
				w.put(w.at(two)+8*at, ^w.peek(w.at(one)+8*at)+n)
			}
			w.begin(copying{src: w.known(one), dst: w.known(two), len: n})
			for i := range n / 8 {
				w.is("P8.2", running)
				w.quiet("P8.2", word(w.at(two)+8*i, w.peek(w.at(one)+8*i)))
			}
			w.is("P8.2", done)
			w.still("P8.2")
			w.is("P8.2", done)
		}
	})
}

// P8.2: bytes are copied where they lie, of parts of pages, and over the end of a page: each step asks anew where its
// bytes are.
func TestCopyOverPages(t *testing.T) {
	w := through(t, api.RamBase, 3)
	w.lead(20*size, w.frame(far), full)
	w.lead(21*size, w.frame(one), full)
	w.lead(30*size, w.frame(11), full)
	w.lead(31*size, w.frame(two), full)
	w.begin(copying{src: 21*size - 24, dst: 31*size - 8, len: 48})
	for _, x := range []struct{ from, to uint64 }{
		{w.at(far+1) - 24, w.at(12) - 8}, {w.at(far+1) - 16, w.at(two)}, {w.at(far+1) - 8, w.at(two) + 8},
		{w.at(one), w.at(two) + 16}, {w.at(one) + 8, w.at(two) + 24}, {w.at(one) + 16, w.at(two) + 32},
	} {
		w.is("P8.2", running)
		w.quiet("P8.2", word(x.to, w.peek(x.from)))
	}
	w.is("P8.2", done)
	f := flat(t, api.RamBase)
	f.begin(copying{src: f.at(two) - 8, dst: f.at(far) - 8, len: 16})
	f.quiet("P8.2", word(f.at(far)-8, f.peek(f.at(two)-8)))
	f.quiet("P8.2", word(f.at(far), f.peek(f.at(two))))
	f.is("P8.2", done)
}

// P8.2: of places that overlap, what a step reads is what the steps ahead of it left.
func TestCopyOverItself(t *testing.T) {
	each(t, func(w *world) {
		from, to := w.known(one)+32, w.at(one)+32
		first := w.peek(to)
		w.begin(copying{src: from, dst: from + 8, len: 64})
		for i := range uint64(8) {
			w.quiet("P8.2", word(to+8+8*i, first))
		}
		w.is("P8.2", done)
		for i := range uint64(10) {
			w.put(to+8*i, 100+i)
		}
		w.begin(copying{src: from, dst: from + 16, len: 32})
		for i := range uint64(4) {
			w.quiet("P8.2", word(to+16+8*i, 100+i%2))
		}
		for i := range uint64(10) {
			w.put(to+8*i, 200+i)
		}
		w.begin(copying{src: from, dst: from - 8, len: 64})
		for i := range uint64(8) {
			w.quiet("P8.2", word(to-8+8*i, 200+i))
		}
		w.begin(copying{src: from, dst: from, len: 16})
		w.quiet("P8.2")
		w.quiet("P8.2")
		w.is("P8.2", done)
	})
}

// P8.2: what is copied is what stands there when the step comes.
func TestCopyOfNow(t *testing.T) {
	each(t, func(w *world) {
		w.begin(copying{src: w.known(one), dst: w.known(two), len: 16})
		w.put(w.at(one), 5)
		w.quiet("P8.2", word(w.at(two), 5))
		w.put(w.at(one), 6)
		w.put(w.at(one)+8, ones)
		w.quiet("P8.2", word(w.at(two)+8, ones))
	})
}

// P8.2: a first access that is blocked fails it; the second one is not tried; with msi 0 nothing is sent.
func TestFirstBlocked(t *testing.T) {
	each(t, func(w *world) {
		w.begin(copying{src: w.known(frames), dst: w.known(frames), len: 8, data: 3})
		w.quiet("P8.2", w.record(api.BlockBus, w.known(frames)))
		w.is("P8.2", failed)
		w.still("P8.2")
		w.begin(copying{src: w.known(frames), dst: w.known(two), len: 8, data: 3, msi: api.MsiBase})
		w.sends("P8.2", w.sent(3), w.record(api.BlockBus, w.known(frames)))
		w.is("P8.2", failed)
		w.still("P8.2")
		w.begin(copying{src: w.known(frames), dst: w.known(two), len: 8, data: 4, msi: 8})
		w.quiet("P8.3", w.record(api.BlockBus, w.known(frames)), w.record(api.BlockMsi, 8))
		w.is("P8.2", failed)
		w.still("P8.2")
	})
}

// P8.2: a second access that is blocked fails it, and nothing is copied.
func TestSecondBlocked(t *testing.T) {
	each(t, func(w *world) {
		w.begin(copying{src: w.known(one), dst: w.known(frames), len: 8, data: 3})
		w.quiet("P8.2", w.record(api.BlockBus, w.known(frames)))
		w.is("P8.2", failed)
		w.still("P8.2")
		w.begin(copying{src: w.known(one), dst: w.known(frames), len: 8, data: 3, msi: api.MsiBase})
		w.sends("P8.2", w.sent(3), w.record(api.BlockBus, w.known(frames)))
		w.is("P8.2", failed)
		w.still("P8.2")
		w.begin(copying{src: w.known(one), dst: w.known(frames), len: 8, data: 3, msi: ones})
		w.quiet("P8.3", w.record(api.BlockBus, w.known(frames)), w.record(api.BlockMsi, ones))
		w.is("P8.2", failed)
		w.still("P8.2")
	})
}

// P8.2: it fails amid a copy; what was copied by then stays, and it begins at the first bytes again.
func TestBlockedAmidACopy(t *testing.T) {
	each(t, func(w *world) {
		end := w.known(frames)
		w.m.Fill(w.at(frames)-16, make([]byte, 16))
		if w.u != nil {
			w.lead(end-size, w.frame(frames-1), full) // the ring's own page, at its end
		}
		for range 2 {
			w.begin(copying{src: end - 16, dst: w.known(two), len: 32, msi: api.MsiBase, data: 15})
			w.quiet("P8.2", word(w.at(two), 0))
			w.quiet("P8.2", word(w.at(two)+8, 0))
			w.is("P8.2", running)
			w.sends("P8.2", w.sent(15), w.record(api.BlockBus, end))
			w.is("P8.2", failed)
			w.still("P8.2")
			w.begin(copying{src: w.known(one), dst: end - 8, len: 32})
			w.quiet("P8.2", word(w.at(frames)-8, w.peek(w.at(one))))
			w.quiet("P8.2", w.record(api.BlockBus, end))
			w.is("P8.2", failed)
			w.put(w.at(frames)-8, 0)
		}
	})
}

// P8.2: what the IOMMU blocks: a read asks to read, a write to write, of 8 bytes, for the engine's own device.
func TestWhatIsBlocked(t *testing.T) {
	w := through(t, 0, 5)
	w.begin(copying{src: w.known(readOnly), dst: w.known(two), len: 8})
	w.quiet("P8.2", word(w.at(two), w.peek(w.at(readOnly))))
	w.is("P8.2", done)
	w.begin(copying{src: w.known(two), dst: w.known(readOnly), len: 8})
	w.quiet("P8.2", w.record(api.BlockPage, w.known(readOnly)))
	w.is("P8.2", failed)
	w.begin(copying{src: w.known(readOnly), dst: w.known(readOnly), len: 8})
	w.quiet("P8.2", w.record(api.BlockPage, w.known(readOnly)))
	w.begin(copying{src: 4 * size, dst: 4*size + 8, len: 8})
	w.quiet("P8.2", w.record(api.BlockPage, 4*size))
	w.begin(copying{src: w.known(one), dst: 4*size + 8, len: 8})
	w.quiet("P8.2", w.record(api.BlockPage, 4*size+8))
	w.begin(copying{src: w.known(one), dst: w.known(two), len: 16})
	w.quiet("P8.2", word(w.at(two), w.peek(w.at(one))))
	w.ok(w.u.Drop(5))
	w.quiet("P8.2", w.record(api.BlockNone, w.known(one)+8))
	w.is("P8.2", failed)
}

// P8.2: a message that is blocked is no message, behind done and behind failed; msi 0 sends none at all, though data
// says something.
func TestMessages(t *testing.T) {
	each(t, func(w *world) {
		for _, x := range []struct {
			msi, data uint64
			comes     bool
		}{
			{api.MsiBase, 0, true}, {api.MsiBase, 3, true}, {api.MsiBase, 15, true},
			{api.MsiBase, 16, false}, {api.MsiBase, 31, false}, {api.MsiBase, 32, false}, {api.MsiBase, 1<<32 + 3, false}, {api.MsiBase, ones, false},
			{api.MsiBase + 8, 3, false}, {api.MsiBase - 8, 3, false}, {api.MsiBase + 1, 3, false}, {1<<32 + api.MsiBase, 3, false}, {1, 0, false}, {ones, 3, false},
			{1 << 63, 3, false}, {1 << 32, 3, false},
		} {
			at := w.peek(w.at(one)) + 1
			w.put(w.at(one), at)
			w.begin(copying{w.known(one), w.known(two), 8, x.msi, x.data})
			if x.comes {
				w.sends("P8.2", w.sent(x.data), word(w.at(two), at))
			} else {
				w.quiet("P8.3", word(w.at(two), at), w.record(api.BlockMsi, x.msi))
			}
			w.is("P8.2", done)
			w.still("P8.2")
			w.begin(copying{w.known(frames), w.known(two), 8, x.msi, x.data})
			if x.comes {
				w.sends("P8.2", w.sent(x.data), w.record(api.BlockBus, w.known(frames)))
			} else {
				w.quiet("P8.3", w.record(api.BlockBus, w.known(frames)), w.record(api.BlockMsi, x.msi))
			}
			w.is("P8.2", failed)
			w.still("P8.2")
		}
		w.begin(copying{w.known(one), w.known(two), 8, 0, 3})
		w.quiet("P8.2", word(w.at(two), w.peek(w.at(one))))
		w.is("P8.2", done)
	})
}

// P8.2: a message is sent behind the last bytes alone, and not when it is stopped.
func TestNoMessageAhead(t *testing.T) {
	each(t, func(w *world) {
		w.begin(copying{w.known(one), w.known(two), size, api.MsiBase, 3})
		for i := range uint64(size/8 - 1) {
			w.quiet("P8.2", word(w.at(two)+8*i, w.peek(w.at(one)+8*i)))
		}
		w.set(control, 2)
		w.still("P8.2")
		w.set(control, 1)
		for i := range uint64(size/8 - 1) {
			w.quiet("P8.2", word(w.at(two)+8*i, w.peek(w.at(one)+8*i)))
		}
		w.sends("P8.2", w.sent(3), word(w.at(two)+size-8, w.peek(w.at(one)+size-8)))
	})
}

// P8.2: places near 2^64 are blocked, unless the IOMMU knows them; behind the last address comes the first.
func TestNearTheEndOfAddresses(t *testing.T) {
	each(t, func(w *world) {
		kind := api.BlockPage
		for _, at := range []uint64{ones - 7, ones - 15, ones &^ (size - 1), 1 << 63, 1 << 39, 1<<63 - 8} {
			w.begin(copying{src: at, dst: w.known(two), len: 16})
			w.quiet("P8.2", w.record(kind, at))
			w.is("P8.2", failed)
			w.begin(copying{src: w.known(one), dst: at, len: 16})
			w.quiet("P8.2", w.record(kind, at))
			w.is("P8.2", failed)
		}
	})
	w := through(t, 0, 2)
	w.u.Put(api.Trans{Vmid: 2, Page: ones / size, Frame: one, Perm: api.PteR | api.PteW})
	w.lead(0, far, full)
	w.begin(copying{src: ones - 15, dst: w.known(two), len: 32})
	for i, from := range []uint64{w.at(one+1) - 16, w.at(one+1) - 8, w.at(far), w.at(far) + 8} {
		w.quiet("P8.2", word(w.at(two)+8*uint64(i), w.peek(from)))
	}
	w.is("P8.2", done)
	w.begin(copying{src: w.known(two), dst: ones - 7, len: 16})
	for i, to := range []uint64{w.at(one+1) - 8, w.at(far)} {
		w.quiet("P8.2", word(to, w.peek(w.at(two)+8*uint64(i))))
	}
	w.is("P8.2", done)
}

// Flat: the memory's first place and its last are in it; one further on either side is not.
func TestFlatEnds(t *testing.T) {
	for _, base := range bases {
		w := flat(t, base)
		first, last := base, w.at(frames)-8
		w.begin(copying{src: last, dst: first, len: 16, msi: api.MsiBase, data: 15})
		w.quiet("P8.2", word(first, w.peek(last)))
		w.sends("P8.2", api.Msi{Guest: 1, Irq: 31})
		w.is("P8.2", failed)
		w.begin(copying{src: last - 8, dst: first, len: 16, msi: api.MsiBase})
		w.quiet("P8.2", word(first, w.peek(last-8)))
		w.sends("P8.2", api.Msi{Guest: 1, Irq: 16}, word(first+8, w.peek(last)))
		w.is("P8.2", done)
		w.begin(copying{src: first, dst: last, len: 16})
		w.quiet("P8.2", word(last, w.peek(first)))
		w.quiet("P8.2")
		w.is("P8.2", failed)
		for _, at := range []uint64{first - 8, last + 8, last + 8 + 64*size, 1<<63 + first, ones - 7} {
			for _, c := range []copying{{src: at, dst: first, len: 8}, {src: first, dst: at, len: 8}} {
				w.begin(c)
				w.quiet("P8.2")
				w.is("P8.2", failed)
			}
		}
		w.begin(copying{src: first - 8, dst: first, len: 16, msi: api.MsiBase, data: 16})
		w.quiet("P8.2")
		w.is("P8.2", failed)
	}
}

// P8.2: each engine has its own device's table and messages, and engines have nothing in common.
func TestTwoEngines(t *testing.T) {
	w := through(t, 0, 0)
	x := *w
	var e api.Errno
	x.dev = 7
	x.Engine, e = engine.New(7, w.m, w.u)
	w.ok(e)
	// Device 7 has a table of its own in the frames from 4 on, which knows frame 12 as page 5.
	w.put(4*size, 5<<10|api.PteV)
	w.put(5*size, 6<<10|api.PteV)
	w.put(6*size+8*5, far<<10|full)
	w.ok(w.u.Set(7, 4))
	w.ok(w.u.Remap(7, 3, api.Msi{Guest: 8, Irq: 1}))
	w.begin(copying{w.known(one), w.known(two), 16, api.MsiBase, 3})
	x.keeps("R4", [7]uint64{})
	x.begin(copying{5 * size, 5*size + 8, 16, api.MsiBase, 3})
	first := w.peek(w.at(far))
	x.quiet("P8.2", word(w.at(far)+8, first))
	w.quiet("P8.2", word(w.at(two), w.peek(w.at(one))))
	x.sends("P8.2", api.Msi{Guest: 8, Irq: 1}, word(w.at(far)+16, first))
	w.is("R4", running)
	x.Reset()
	w.is("R4", running)
	w.sends("P8.2", w.sent(3), word(w.at(two)+8, w.peek(w.at(one)+8)))
	w.is("P8.2", done)
	x.is("R4", idle)
	f, g := flat(t, 0), flat(t, 0)
	f.begin(copying{f.at(one), f.at(two), 8, 0, 0})
	g.keeps("R4", [7]uint64{})
	g.still("R4")
	f.is("R4", running)
}

// P8.3: with a ring that is full, or without one, what is blocked sets the flag alone.
func TestBlockedWithoutARing(t *testing.T) {
	m := memory(t, 0)
	u, _ := iommu.New(m, 1)
	e, _ := engine.New(4, m, u)
	w := &world{t: t, m: m, u: u, Engine: e, dev: 4}
	w.begin(copying{size, 2 * size, 8, api.MsiBase, 3})
	was := w.all()
	if to, ok := w.Step(); ok || to != (api.Msi{}) {
		t.Errorf("P8.2: %v, %v", to, ok)
	}
	if !u.Overflow() {
		t.Error("P8.2: no flag: nothing was asked of the IOMMU")
	}
	u.Clear()
	w.turned("P8.3", was)
	w.is("P8.2", failed)
	w.still("P8.2")
}
