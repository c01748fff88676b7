package plat_test

import (
	"math"
	"testing"

	"citadel/api"
	"citadel/plat"
)

// P11.3: harts are from 1 to MaxVcpus; nothing is up, let, claimed or pending at first.
func TestNewIntc(t *testing.T) {
	for _, harts := range []int{0, -1, -2, -64, api.MaxVcpus + 1, api.MaxVcpus + 2, 128, 256, 1 << 32, 1<<32 + 1, -1 << 32, math.MinInt, math.MinInt + 1, math.MaxInt} {
		if c, e := plat.NewIntc(harts); c != nil || e != api.ErrArg {
			t.Errorf("P11.3: NewIntc(%d) = %v, %d", harts, c, e)
		}
	}
	for harts := 1; harts <= api.MaxVcpus; harts++ {
		b := newBoth(t, harts)
		b.pending("P11.3")
		if v := b.read(0, 4); v != 0 {
			t.Errorf("P11.4: Read(0, 4) = %#x at first", v)
		}
		for h := range harts {
			if v := b.read(0x1000+4*uint64(h), 4); v != 0 {
				t.Errorf("P11.3: hart %d lets %#x at first", h, v)
			}
			b.claims("P11.4", h, 0)
		}
	}
}

// P11.3, P11.4: the chapter's example.
func TestIntcExample(t *testing.T) {
	b := newBoth(t, 2)
	b.level(5, true)
	b.write(0x1004, 4, 32)
	b.pending("P11.3", 1)
	b.claims("P11.4", 1, 5)
	b.pending("P11.3")
	b.completes(1, 5)
	b.pending("P11.3", 1)
}

// P11.3: each source from 1 to 31 is up behind Level up and down behind Level down, and no other is; it is claimed so.
func TestIntcLevels(t *testing.T) {
	for src := 1; src <= 31; src++ {
		b := newBoth(t, 2)
		b.lets(0, src)
		for range 2 {
			b.level(src, true)
			b.level(src, true)
			if v := b.read(0, 4); v != 1<<src {
				t.Fatalf("P11.4: behind Level(%d, true): %#x", src, v)
			}
			b.pending("P11.3", 0)
			b.level(src, false)
			if v := b.read(0, 4); v != 0 {
				t.Fatalf("P11.4: behind Level(%d, false): %#x", src, v)
			}
			b.pending("P11.3")
			b.claims("P11.4", 0, 0)
		}
		b.level(src, true)
		b.claims("P11.4", 1, 0)
		b.claims("P11.4", 0, src)
		b.reveal()
	}
}

// P11.3: of what is no source Level and Pulse do nothing.
func TestIntcNoSources(t *testing.T) {
	for _, src := range notSources {
		b := newBoth(t, 3)
		for h := range 3 {
			b.write(0x1000+4*uint64(h), 4, ones)
		}
		b.level(src, true)
		b.pulse(src)
		if v := b.read(0, 4); v != 0 {
			t.Errorf("P11.3: source %d: %#x is up", src, v)
		}
		b.pending("P11.3")
		b.claims("P11.3", 1, 0)
		for i := 1; i <= 31; i++ {
			b.level(i, true)
		}
		b.level(src, false)
		if v := b.read(0, 4); v != 1<<32-2 {
			t.Errorf("P11.3: source %d: %#x is up", src, v)
		}
		b.reveal()
	}
}

// P11.3, P11.5: a pulse comes once, however often it was pulsed ahead of the claim, and once more behind another pulse.
func TestIntcPulses(t *testing.T) {
	for src := 1; src <= 31; src++ {
		for times := 1; times <= 3; times++ {
			b := newBoth(t, 2)
			b.lets(0, src)
			b.lets(1, src)
			for range times {
				b.pulse(src)
			}
			if v := b.read(0, 4); v != 1<<src {
				t.Fatalf("P11.4: behind Pulse(%d): %#x", src, v)
			}
			b.pending("P11.3", 0, 1)
			b.claims("P11.4", 1, src)
			if v := b.read(0, 4); v != 0 {
				t.Fatalf("P11.4: behind a claim of what was pulsed: %#x", v)
			}
			b.pending("P11.3")
			b.completes(1, uint64(src))
			b.pending("P11.3")
			b.claims("P11.4", 1, 0)
			b.pulse(src)
			b.claims("P11.4", 0, src)
		}
	}
}

// P11.3: a pulse while the source is claimed comes behind its completion.
func TestIntcPulsedWhileClaimed(t *testing.T) {
	b := newBoth(t, 2)
	b.lets(0, 3)
	b.lets(1, 3)
	b.pulse(3)
	b.claims("P11.4", 0, 3)
	b.pulse(3)
	b.pulse(3)
	if v := b.read(0, 4); v != 1<<3 {
		t.Errorf("P11.4: it is up while it is claimed: %#x", v)
	}
	b.pending("P11.3")
	b.claims("P11.4", 1, 0)
	b.completes(0, 3)
	b.pending("P11.3", 0, 1)
	b.claims("P11.4", 1, 3)
	b.completes(1, 3)
	b.pending("P11.3")
}

// P11.3: a level that goes down does not take a pulse away, and a claim does not take a level away.
func TestIntcPulsedAndUp(t *testing.T) {
	b := newBoth(t, 1)
	b.lets(0, 7)
	b.level(7, true)
	b.pulse(7)
	b.level(7, false)
	b.pending("P11.3", 0)
	b.claims("P11.4", 0, 7)
	b.completes(0, 7)
	b.pending("P11.3")

	b.pulse(7)
	b.level(7, true)
	b.claims("P11.4", 0, 7) // the pulse is over, the level is not
	if v := b.read(0, 4); v != 1<<7 {
		t.Errorf("P11.4: behind the claim: %#x", v)
	}
	b.completes(0, 7)
	b.pending("P11.3", 0)
	b.level(7, false)
	b.pending("P11.3")
}

// P11.3, P11.5: a source that is claimed while it is up comes again behind its completion, if it is still up.
func TestIntcComesAgain(t *testing.T) {
	for _, src := range []int{1, 2, 16, 30, 31} {
		b := newBoth(t, 3)
		for h := range 3 {
			b.lets(h, src)
		}
		b.level(src, true)
		for i := range 9 {
			h := i % 3
			b.pending("P11.5", 0, 1, 2)
			b.claims("P11.5", h, src)
			b.pending("P11.5")
			for other := range 3 {
				b.claims("P11.5", other, 0)
			}
			b.level(src, false)
			b.level(src, true)
			b.pending("P11.5")
			b.completes(h, uint64(src))
		}
		b.claims("P11.5", 2, src)
		b.level(src, false)
		b.completes(2, uint64(src))
		b.pending("P11.5")
		b.claims("P11.5", 2, 0)
	}
}

// P11.4: what a hart lets is written and read, bit 0 stays 0, the high half of v does not count, and each hart has its own.
func TestIntcLets(t *testing.T) {
	words := []uint64{0, 1, 2, 3, 1 << 31, 1<<32 - 1, 1<<32 - 2, 1 << 32, 1<<32 + 1, 1<<40 + 33, ones, 0xffffffff_00000000, 0x12345678_9abcdef1}
	for i := range 64 {
		words = append(words, 1<<i)
	}
	for _, harts := range []int{1, 2, api.MaxVcpus} {
		b := newBoth(t, harts)
		for i := 1; i <= 31; i++ {
			b.level(i, true)
		}
		for i, v := range words {
			h := i * 29 % harts
			b.write(0x1000+4*uint64(h), 4, v)
			if got := b.read(0x1000+4*uint64(h), 4); got != v%(1<<32)/2*2 {
				t.Errorf("P11.4: hart %d lets %#x behind %#x", h, got, v)
			}
		}
	}
}

// P11.3: every hart of MaxVcpus has registers of its own: lets, claims and completes for itself alone.
func TestIntcEachHart(t *testing.T) {
	const harts = api.MaxVcpus
	b := newBoth(t, harts)
	for h := range harts {
		src := h%31 + 1
		b.lets(h, src)
		b.level(src, true)
		b.pending("P11.3", h)
		b.claims("P11.4", h, src)
		b.pending("P11.3")
		for other := range harts {
			if other != h {
				b.completes(other, uint64(src))
			}
		}
		b.pending("P11.3")
		b.completes(h, uint64(src))
		b.pending("P11.3", h)
		b.level(src, false)
		b.lets(h)
	}
}

// P11.4: claims are of the lowest source that is up, that the hart lets, and that nobody has claimed.
func TestIntcClaims(t *testing.T) {
	b := newBoth(t, 3)
	for _, src := range []int{31, 9, 4, 2, 20} {
		b.level(src, true)
	}
	b.pulse(6)
	b.lets(0, 1, 4, 6, 9, 31)
	b.lets(1, 2, 4, 9)
	b.lets(2, 3, 5, 30)
	b.pending("P11.3", 0, 1)
	b.claims("P11.4", 2, 0)
	b.claims("P11.4", 0, 4)
	b.claims("P11.4", 1, 2)
	b.claims("P11.4", 1, 9)
	b.pending("P11.3", 0)
	b.claims("P11.4", 1, 0)
	b.claims("P11.4", 0, 6)
	b.claims("P11.4", 0, 31)
	b.pending("P11.3")
	b.claims("P11.4", 0, 0)
	b.lets(2, 20, 9)
	b.pending("P11.3", 2)
	b.claims("P11.4", 2, 20)
	b.completes(1, 9)
	b.pending("P11.3", 0, 1, 2)
	b.claims("P11.4", 2, 9)
	b.completes(0, 4)
	b.pending("P11.3", 0, 1)
	b.claims("P11.4", 1, 4)
	b.reveal()
}

// P11.4: sources that are let no more stay claimed, and are completed still.
func TestIntcLetNoMore(t *testing.T) {
	b := newBoth(t, 2)
	b.level(8, true)
	b.lets(0, 8)
	b.lets(1, 8)
	b.claims("P11.4", 0, 8)
	b.lets(0)
	b.pending("P11.3")
	b.completes(0, 8)
	b.pending("P11.3", 1)
	b.lets(0, 8)
	b.pending("P11.3", 0, 1)
	b.lets(1)
	b.pending("P11.3", 0)
}

// P11.4: a completion counts by the hart that claimed, of the source that it names; the high half of v does not count.
func TestIntcCompletions(t *testing.T) {
	for _, src := range []int{1, 5, 31} {
		b := newBoth(t, 3)
		for h := range 3 {
			b.lets(h, src)
		}
		b.level(src, true)
		for h := range 3 { // of what nobody has claimed
			b.completes(h, uint64(src))
			b.pending("P11.4", 0, 1, 2)
		}
		b.claims("P11.4", 1, src)
		for _, h := range []int{0, 2} { // by another hart
			b.completes(h, uint64(src))
			b.pending("P11.4")
		}
		for _, v := range []uint64{0, 32, 33, 63, 64, uint64(src) + 32, uint64(src) + 64, uint64(src) + 256, uint64(src) + 1<<31, 1 << 31, 1<<32 - 1, 1 << 32, uint64(src) << 32, ones, ones - 31} {
			b.completes(1, v)
			b.pending("P11.4")
		}
		for v := range uint64(32) {
			if v != uint64(src) {
				b.completes(1, v)
				b.pending("P11.4")
			}
		}
		b.completes(1, 0xabcdef01<<32|uint64(src))
		b.pending("P11.4", 0, 1, 2)
		b.claims("P11.4", 2, src)
		b.completes(1, uint64(src)) // a second time, when another has it
		b.pending("P11.4")
		b.completes(2, uint64(src))
		b.pending("P11.4", 0, 1, 2)
	}
}

// P11.4: a hart that has claimed several sources completes each by itself, in any order.
func TestIntcSeveralClaimed(t *testing.T) {
	for _, order := range [][]int{{2, 3, 9}, {9, 3, 2}, {3, 9, 2}, {3, 2, 9}} {
		b := newBoth(t, 2)
		b.lets(0, 2, 3, 9)
		b.lets(1, 2, 3, 9)
		for _, src := range []int{9, 3, 2} {
			b.level(src, true)
		}
		for _, src := range []int{2, 3, 9} {
			b.claims("P11.4", 0, src)
		}
		for _, src := range order {
			b.claims("P11.5", 1, 0)
			b.completes(0, uint64(src))
			b.claims("P11.5", 1, src)
		}
	}
}

// P11.3: Pending is false of no hart, whatever is up.
func TestIntcNoHart(t *testing.T) {
	for _, harts := range []int{1, 2, 63, api.MaxVcpus} {
		b := newBoth(t, harts)
		for h := range harts {
			b.write(0x1000+4*uint64(h), 4, ones)
		}
		for i := 1; i <= 31; i++ {
			b.level(i, true)
		}
		for _, h := range notHarts(harts) {
			if b.x.Pending(h) {
				t.Errorf("P11.3: Pending(%d) of %d harts", h, harts)
			}
		}
	}
}

// isRegister tells whether the controller has a register there, of size 4.
func isRegister(harts int, off uint64) bool {
	for h := range uint64(harts) {
		if off == 0x1000+4*h || off == 0x2000+4*h {
			return true
		}
	}
	return off == 0
}

// intcOffsets are offsets: all from 0 to 0x4000, and some far ones.
func intcOffsets() []uint64 {
	list := []uint64{1 << 16, 0x11000, 0x12000, 1 << 32, 1<<32 + 0x1000, 1<<32 + 0x2000, 1 << 63, 1<<63 + 0x1000, 1<<63 + 0x2004, ones, ones - 3, ones - 7, ones - 0xfff, ones - 0x1fff, ones - 0xfff + 4}
	for off := range uint64(0x4001) {
		list = append(list, off)
	}
	return list
}

// P11.4: any other offset or size is refused, read and written, and nothing comes of it; a write of offset 0 too.
func TestIntcRefuses(t *testing.T) {
	for _, harts := range []int{1, 2, 63, api.MaxVcpus} {
		b := newBoth(t, harts)
		b.level(4, true)
		b.level(5, true)
		b.pulse(6)
		b.lets(harts-1, 4, 5, 6)
		b.claims("P11.4", harts-1, 4)
		refused := 0
		for _, off := range intcOffsets() {
			if !isRegister(harts, off) {
				b.refuses(off, 4)
				refused++
			}
			if off%0x1000 < 4*api.MaxVcpus+16 {
				for _, size := range notSizes {
					b.refuses(off, size)
				}
			}
		}
		for _, v := range []uint64{0, 1, 4, 5, 6, 1 << 4, 1 << 5, ones} {
			if b.x.Write(0, 4, v) {
				t.Errorf("P11.4: Write(0, 4, %#x) is taken", v)
			}
		}
		if refused < 0x4001-2*harts-1 {
			t.Errorf("only %d offsets were refused", refused)
		}
		b.same()
		b.claims("P11.4", harts-1, 5)
		b.claims("P11.4", harts-1, 6)
		b.claims("P11.4", harts-1, 0)
		b.reveal()
	}
}

// refuses fails if the controller under test takes a read or a write there.
func (b *both) refuses(off uint64, size int) {
	b.t.Helper()
	if v, ok := b.x.Read(off, size); ok || v != 0 {
		b.t.Fatalf("P11.4: Read(%#x, %d) = %#x, %v", off, size, v, ok)
	}
	for _, v := range []uint64{4, ones} {
		if b.x.Write(off, size, v) {
			b.t.Fatalf("P11.4: Write(%#x, %d, %#x) is taken", off, size, v)
		}
	}
}

// P11.4: registers are answered by true, read and written, whatever is written.
func TestIntcTakes(t *testing.T) {
	for _, harts := range []int{1, 2, api.MaxVcpus} {
		b := newBoth(t, harts)
		for h := range uint64(harts) {
			for _, v := range []uint64{0, 1, 31, 32, 77, 1 << 31, 1 << 32, ones} {
				for _, off := range []uint64{0x1000 + 4*h, 0x2000 + 4*h} {
					if !b.x.Write(off, 4, v) {
						t.Errorf("P11.4: Write(%#x, 4, %#x) is refused", off, v)
					}
					if _, ok := b.x.Read(off, 4); !ok {
						t.Errorf("P11.4: Read(%#x, 4) is refused", off)
					}
				}
			}
		}
	}
}

// P11.4: reading what is up, and what a hart lets, claims nothing and turns nothing.
func TestIntcReadsTurnNothing(t *testing.T) {
	b := newBoth(t, 2)
	b.level(3, true)
	b.pulse(12)
	b.lets(1, 3, 12)
	for range 5 {
		if v := b.read(0, 4); v != 1<<3|1<<12 {
			t.Fatalf("P11.4: %#x is up", v)
		}
		if v := b.read(0x1004, 4); v != 1<<3|1<<12 {
			t.Fatalf("P11.4: hart 1 lets %#x", v)
		}
		b.pending("P11.3", 1)
	}
	b.claims("P11.4", 1, 3)
	if v := b.read(0, 4); v != 1<<3|1<<12 {
		t.Errorf("P11.4: behind a claim %#x is up", v)
	}
	b.claims("P11.4", 1, 12)
	if v := b.read(0, 4); v != 1<<3 {
		t.Errorf("P11.4: behind the claim of what was pulsed %#x is up", v)
	}
}

// R4: two controllers have nothing in common.
func TestTwoIntcs(t *testing.T) {
	a, b := newBoth(t, 2), newBoth(t, 2)
	a.level(5, true)
	a.pulse(6)
	a.lets(0, 5, 6)
	b.same()
	b.lets(0, 5, 6)
	b.pending("R4")
	a.claims("R4", 0, 5)
	b.level(5, true)
	b.pending("R4", 0)
	b.completes(0, 5)
	a.same()
	a.claims("R4", 0, 6)
	b.claims("R4", 0, 5)
	b.claims("R4", 0, 0)
	b.reveal()
	a.reveal()
}
