package engine_test

import (
	"math"
	"testing"

	"citadel/api"
	"citadel/engine"
	"citadel/iommu"
)

// The face that the chapter lists.
var _ interface {
	Read(off uint64, size int) (uint64, bool)
	Write(off uint64, size int, v uint64) bool
	Step() (api.Msi, bool)
	Busy() bool
	Reset()
} = (*engine.Engine)(nil)

// P8.1: an engine is of a device that there is, and its registers are 0.
func TestNew(t *testing.T) {
	m := memory(t, 0)
	u, _ := iommu.New(m, 1)
	for _, dev := range []int{-1, -2, -api.MaxDevs, api.MaxDevs, api.MaxDevs + 1, 256, 1 << 32, math.MinInt, math.MaxInt} {
		if e, bad := engine.New(dev, m, u); e != nil || bad != api.ErrArg {
			t.Errorf("P8.1: New(%d): %v, %d", dev, e, bad)
		}
	}
	for dev := range api.MaxDevs {
		w := through(t, 0, dev)
		w.keeps("P8.1", [7]uint64{})
		w.is("P8.1", idle)
		w.still("P8.2")
	}
	w := flat(t, 0)
	w.keeps("P8.2", [7]uint64{})
	w.is("P8.2", idle)
	w.still("P8.2")
}

// P8.1: a register that is kept is what was written to it, by 8 bytes and by halves, and no other is.
func TestRegisters(t *testing.T) {
	each(t, func(w *world) {
		for i, off := range kept {
			was := w.registers()
			for j, v := range []uint64{0x1122334455667788, ones, 0, 1, 1 << 63, 1<<32 - 1, 1 << 32, 0x8877665544332211 + uint64(i)} {
				if !w.Write(off, 8, v) {
					t.Fatalf("P8.1: Write(%#x, 8, ..) is refused", off)
				}
				was[off/8] = v
				w.keeps("P8.1", was)
				w.reads("P8.1", off, v)
				half := uint64(0xa5a5a5a5_00c0ffee) + uint64(j)
				if !w.Write(off, 4, half) {
					t.Fatalf("P8.1: Write(%#x, 4, ..) is refused", off)
				}
				was[off/8] = v>>32<<32 | half&(1<<32-1)
				w.keeps("P8.1", was)
				w.reads("P8.1", off, was[off/8])
				if !w.Write(off+4, 4, ^half) {
					t.Fatalf("P8.1: Write(%#x, 4, ..) is refused", off+4)
				}
				was[off/8] = ^half<<32 | half&(1<<32-1)
				w.keeps("P8.1", was)
				w.reads("P8.1", off, was[off/8])
			}
		}
		w.is("P8.1", idle)
		w.still("P8.2")
	})
}

// reads fails if a register does not read as a number, as a whole and by its halves.
func (w *world) reads(promise string, off, want uint64) {
	w.t.Helper()
	w.holds(promise, off, want)
	if v, ok := w.Read(off, 4); !ok || v != want&(1<<32-1) {
		w.t.Errorf("%s: Read(%#x, 4) = %#x, %v, of %#x", promise, off, v, ok, want)
	}
	if v, ok := w.Read(off+4, 4); !ok || v != want>>32 {
		w.t.Errorf("%s: Read(%#x, 4) = %#x, %v, of %#x", promise, off+4, v, ok, want)
	}
}

// some offsets, and sizes, of which few are any.
var (
	offs  = []uint64{size - 8, size - 4, size, size + 8, 1 << 31, 1 << 32, 1<<32 + 8, 1 << 63, 1<<63 + 0x20, 1<<63 - 8, ones, ones - 1, ones - 3, ones - 7, ones - 11, ones - 15, ones - 0x37}
	sizes = []int{0, 1, 2, 3, 4, 5, 6, 7, 8, 9, 10, 12, 15, 16, 17, 24, 32, 64, size, 1<<32 + 4, 1<<32 + 8, math.MaxInt, -1, -2, -4, -8, -16, math.MinInt, math.MinInt + 4, math.MinInt + 8}
)

// P8.1: what is no register, nor a half of one, is refused, read and written, whether it runs or not; all else is not.
func TestWhatIsRefused(t *testing.T) {
	list := offs
	for off := range uint64(0x60) {
		list = append(list, off)
	}
	for _, to := range []uint64{idle, running, done, failed} {
		each(t, func(w *world) {
			w.come(to)
			was := w.registers()
			memory := w.all()
			for _, off := range list {
				for _, n := range sizes {
					isOne := (n == 4 || n == 8) && off%uint64(n) == 0 && off < behind
					v, ok := w.Read(off, n)
					if ok != isOne || !ok && v != 0 {
						t.Errorf("P8.1: Read(%#x, %d) = %#x, %v", off, n, v, ok)
					}
					if isOne {
						continue
					}
					for _, v := range []uint64{ones, 0, 1, 2, 3, 2 << 32} {
						if w.Write(off, n, v) {
							t.Errorf("P8.1: Write(%#x, %d, %#x) is taken", off, n, v)
						}
					}
				}
			}
			w.keeps("R2", was)
			w.is("R2", to)
			w.turned("P8.3", memory)
		})
	}
}

// P8.1: what is refused while a copy runs leaves it as far as it came.
func TestRefusedAmidACopy(t *testing.T) {
	each(t, func(w *world) {
		w.begin(copying{src: w.known(one), dst: w.known(two), len: 16})
		w.quiet("P8.2", word(w.at(two), w.peek(w.at(one))))
		for _, n := range sizes {
			if n != 4 && n != 8 {
				w.Write(control, n, 3)
			}
		}
		w.Write(control+4, 8, 2)
		w.Write(control+2, 4, 2)
		w.Write(behind, 8, 2)
		w.quiet("P8.2", word(w.at(two)+8, w.peek(w.at(one)+8)))
		w.is("P8.2", done)
	})
}

// P8.1: control reads as 0, whatever was written to it.
func TestControlReads(t *testing.T) {
	for _, v := range []uint64{0, 1, 2, 3, 4, ones, ones &^ 3, 1 << 32, 2 << 32} {
		for _, n := range []int{4, 8} {
			each(t, func(w *world) {
				for _, to := range []uint64{idle, running, done, failed} {
					w.come(to)
					w.reads("P8.1", control, 0)
					w.Write(control, n, v)
					w.reads("P8.1", control, 0)
					w.Write(control+4, 4, v)
					w.reads("P8.1", control, 0)
				}
			})
		}
	}
}

// P8.1: status is not written; a write is no error.
func TestStatusIsNotWritten(t *testing.T) {
	each(t, func(w *world) {
		for _, to := range []uint64{idle, running, done, failed} {
			w.come(to)
			was := w.registers()
			for _, v := range []uint64{0, 1, 2, 3, 4, ones, 1 << 32, 3 << 32} {
				if !w.Write(status, 8, v) || !w.Write(status, 4, v) || !w.Write(status+4, 4, v) {
					t.Error("P8.1: status refuses")
				}
				w.keeps("P8.1", was)
				w.is("P8.1", to)
				w.reads("P8.1", status, to)
			}
		}
	})
}

// P8.1: control's high half asks for nothing.
func TestControlsHighHalf(t *testing.T) {
	each(t, func(w *world) {
		for _, to := range []uint64{idle, running, done, failed} {
			w.come(to)
			was := w.registers()
			for _, v := range []uint64{0, 1, 2, 3, 4, ones, 1 << 32, 3 << 32} {
				if !w.Write(control+4, 4, v) {
					t.Error("P8.1: control's high half refuses")
				}
				w.keeps("P8.1", was)
				w.is("P8.1", to)
			}
		}
	})
}

// P8.1: what control's bits ask for, in each status, by its low half and by all of it; its other bits ask for nothing.
func TestControl(t *testing.T) {
	for _, x := range []struct{ from, bits, to uint64 }{
		{idle, 0, idle}, {idle, 1, running}, {idle, 2, idle}, {idle, 3, running},
		{running, 0, running}, {running, 1, running}, {running, 2, idle}, {running, 3, idle},
		{done, 0, done}, {done, 1, running}, {done, 2, idle}, {done, 3, running},
		{failed, 0, failed}, {failed, 1, running}, {failed, 2, idle}, {failed, 3, running},
	} {
		each(t, func(w *world) {
			for _, more := range []uint64{0, 4, 8, 1 << 31, 1 << 32, 3 << 32, 1 << 63, ones &^ 3} {
				for _, n := range []int{4, 8} {
					w.come(x.from)
					was := w.registers()
					memory := w.all()
					if !w.Write(control, n, x.bits|more) {
						t.Error("P8.1: control refuses")
					}
					was[status/8] = x.to
					w.keeps("P8.1", was)
					w.is("P8.1", x.to)
					w.turned("P8.3", memory)
				}
			}
		})
	}
}

// P8.1: while it runs no register is turned, and the copy goes on as it began.
func TestWhileItRuns(t *testing.T) {
	each(t, func(w *world) {
		w.begin(copying{src: w.known(one), dst: w.known(two), len: 24, msi: api.MsiBase, data: 3})
		was := w.registers()
		for i := range uint64(3) {
			for _, off := range append(kept, status) {
				for _, v := range []uint64{0, 8, ones, ones &^ 7} {
					if !w.Write(off, 8, v) || !w.Write(off, 4, v) || !w.Write(off+4, 4, v) {
						t.Errorf("P8.1: %#x refuses", off)
					}
				}
			}
			w.keeps("P8.1", was)
			c := word(w.at(two)+8*i, w.peek(w.at(one)+8*i))
			if i < 2 {
				w.quiet("P8.2", c)
			} else {
				w.sends("P8.2", w.sent(3), c)
			}
		}
		w.is("P8.2", done)
	})
}
