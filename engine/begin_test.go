package engine_test

import (
	"testing"

	"citadel/api"
)

// tries fails if an engine in each status does not come to another when it begins a copy; beginning itself sends
// nothing, and turns no memory.
func (w *world) tries(c copying, want uint64) {
	w.t.Helper()
	for _, from := range []uint64{idle, done, failed} {
		for _, n := range []int{4, 8} {
			w.come(from)
			w.ready(c)
			memory := w.all()
			if !w.Write(control, n, 1) {
				w.t.Error("P8.1: control refuses")
			}
			w.is("P8.1", want)
			w.turned("P8.3", memory)
			w.keeps("P8.1", [7]uint64{c.src, c.dst, c.len, 0, want, c.msi, c.data})
			if want == failed {
				w.still("P8.2")
			}
		}
	}
}

// P8.1: a len of 0, or above PageSize, or no multiple of 8, fails at once, and sends no message.
func TestBeginByLen(t *testing.T) {
	each(t, func(w *world) {
		for _, n := range []uint64{8, 16, 24, 2048, size - 16, size - 8, size} {
			w.tries(copying{w.known(one), w.known(two), n, api.MsiBase, 3}, running)
		}
		for _, n := range []uint64{0, 1, 2, 3, 4, 5, 6, 7, 9, 12, 20, size - 7, size - 4, size - 1,
			size + 1, size + 4, size + 8, 2 * size, 1 << 32, 1<<32 + 8, 1 << 63, 1<<63 + 8, ones, ones - 7} {
			w.tries(copying{w.known(one), w.known(two), n, api.MsiBase, 3}, failed)
			w.tries(copying{w.known(one), w.known(two), n, 0, 0}, failed)
		}
	})
}

// P8.1: a src or a dst that is no multiple of 8 fails at once; all others are taken, wherever they lead.
func TestBeginByPlaces(t *testing.T) {
	each(t, func(w *world) {
		a, b := w.known(one), w.known(two)
		for bits := range uint64(64) {
			want := uint64(running)
			if bits != 0 {
				want = failed
			}
			w.tries(copying{a + bits%8, b + bits/8, 16, api.MsiBase, 3}, want)
		}
		for _, c := range []copying{
			{ones - 7, b, 8, 0, 0}, {a, ones - 7, 8, 0, 0}, {ones - 7, ones - 7, size, 0, 0},
			{0, 0, 8, 0, 0}, {a, a, 8, 0, 0}, {1 << 63, 1 << 63, 8, 0, 0}, {1 << 32, 1 << 39, 8, ones, ones},
		} {
			w.tries(c, running)
		}
		for _, c := range []copying{{ones, b, 8, 0, 0}, {a, ones, 8, 0, 0}, {ones - 3, b, 8, 0, 0}, {a, 1<<63 + 4, 8, 0, 0}} {
			w.tries(c, failed)
		}
	})
}

// P8.1: what it failed at is mended, and it begins.
func TestBeginAgainMended(t *testing.T) {
	each(t, func(w *world) {
		w.tries(copying{w.known(one), w.known(two), 12, api.MsiBase, 3}, failed)
		w.set(length, 16)
		w.is("P8.1", failed)
		w.set(control, 1)
		w.is("P8.1", running)
		w.quiet("P8.2", word(w.at(two), w.peek(w.at(one))))
		w.sends("P8.2", w.sent(3), word(w.at(two)+8, w.peek(w.at(one)+8)))
		w.is("P8.2", done)
	})
}

// P8.1: an engine that was stopped holds its registers, does nothing, and begins from the first bytes again.
func TestStopAndBeginAgain(t *testing.T) {
	each(t, func(w *world) {
		for _, bits := range []uint64{2, 3} {
			for _, n := range []int{4, 8} {
				c := copying{w.known(one), w.known(two), 32, api.MsiBase, 3}
				w.begin(c)
				for i := range uint64(2) {
					w.quiet("P8.2", word(w.at(two)+8*i, w.peek(w.at(one)+8*i)))
				}
				w.Write(control, n, bits)
				w.keeps("P8.1", [7]uint64{c.src, c.dst, c.len, 0, idle, c.msi, c.data})
				w.is("P8.1", idle)
				w.still("P8.2")
				for i := range uint64(4) {
					w.put(w.at(one)+8*i, w.peek(w.at(one)+8*i)+i+1)
				}
				w.set(control, 1)
				w.is("P8.1", running)
				for i := range uint64(3) {
					w.quiet("P8.2", word(w.at(two)+8*i, w.peek(w.at(one)+8*i)))
				}
				w.sends("P8.2", w.sent(3), word(w.at(two)+24, w.peek(w.at(one)+24)))
				w.is("P8.2", done)
			}
		}
	})
}

// P8.2: Reset leaves registers of 0, and nothing that runs, in each status; what was copied stays, and the engine may
// begin anew.
func TestReset(t *testing.T) {
	each(t, func(w *world) {
		for _, from := range []uint64{idle, running, done, failed} {
			w.come(from)
			w.set(msi, api.MsiBase)
			w.set(data, ones)
			memory := w.all()
			w.Reset()
			w.keeps("P8.2", [7]uint64{})
			w.is("P8.2", idle)
			w.turned("P8.3", memory)
			w.still("P8.2")
		}
		c := copying{w.known(one), w.known(two), 24, api.MsiBase, 3}
		w.begin(c)
		w.quiet("P8.2", word(w.at(two), w.peek(w.at(one))))
		w.Reset()
		w.Reset()
		w.keeps("P8.2", [7]uint64{})
		w.still("P8.2")
		w.set(control, 1)
		w.is("P8.1", failed)
		w.put(w.at(one), 77)
		w.begin(c)
		w.quiet("P8.2", word(w.at(two), 77))
		w.quiet("P8.2", word(w.at(two)+8, w.peek(w.at(one)+8)))
		w.sends("P8.2", w.sent(3), word(w.at(two)+16, w.peek(w.at(one)+16)))
		w.is("P8.2", done)
	})
}
