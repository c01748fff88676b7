package plat_test

import (
	"math/rand"
	"testing"

	"citadel/plat"
)

// tells fails if a clock's register does not read so.
func tells(t *testing.T, c *plat.Clock, off, now, want uint64) {
	t.Helper()
	if v, ok := c.Read(off, 4, now); !ok || v != want {
		t.Errorf("P11.2: Read(%d, 4, %#x) = %#x, %v, not %#x", off, now, v, ok, want)
	}
}

// refuses fails if a clock has something there.
func refuses(t *testing.T, c *plat.Clock, off uint64, size int, now uint64) {
	t.Helper()
	if v, ok := c.Read(off, size, now); ok || v != 0 {
		t.Errorf("P11.2: Read(%#x, %d, %#x) = %#x, %v", off, size, now, v, ok)
	}
}

// times are times at which halves are told apart.
var times = []uint64{0, 1, 1<<31 - 1, 1 << 31, 1<<32 - 1, 1 << 32, 1<<32 + 1, 0x1122334455667788, 0x8877665544332211, 1 << 63, ones - 1, ones, 0xffffffff_00000000, 0x00000001_ffffffff}

// P11.2: the low half is told, and the high half of that time is kept till the next low half.
func TestClockHalves(t *testing.T) {
	for _, first := range times {
		for _, second := range times {
			c := plat.NewClock()
			tells(t, c, 4, first, 0) // the high half first
			tells(t, c, 4, second, 0)
			tells(t, c, 0, first, first%(1<<32))
			tells(t, c, 4, second, first>>32)
			tells(t, c, 4, first, first>>32)
			tells(t, c, 0, second, second%(1<<32)) // another low half
			tells(t, c, 4, first, second>>32)
			tells(t, c, 0, first, first%(1<<32))
			tells(t, c, 0, second, second%(1<<32)) // the last one counts
			tells(t, c, 4, first, second>>32)
		}
	}
}

// clockOffsets are offsets where the clock has nothing.
var clockOffsets = []uint64{1, 2, 3, 5, 6, 7, 8, 9, 12, 16, 0xff8, 0xffc, 0x1000, 0x1004, 1 << 32, 1<<32 + 4, 1 << 63, 1<<63 + 4, ones - 7, ones - 4, ones - 3, ones - 2, ones - 1, ones}

// P11.2: all else is refused, and keeps nothing.
func TestClockRefuses(t *testing.T) {
	for _, kept := range times {
		c := plat.NewClock()
		for _, begun := range []bool{false, true} {
			want := uint64(0)
			if begun {
				tells(t, c, 0, kept, kept%(1<<32))
				want = kept >> 32
			}
			for _, size := range notSizes {
				refuses(t, c, 0, size, ^kept)
				tells(t, c, 4, ^kept, want)
				refuses(t, c, 4, size, ^kept)
				tells(t, c, 4, ^kept, want)
			}
			for _, off := range clockOffsets {
				for _, size := range append([]int{4}, notSizes...) {
					refuses(t, c, off, size, ^kept)
				}
				tells(t, c, 4, ^kept, want)
			}
		}
	}
}

// P11.2: lives of clocks; R4: they have nothing in common.
func TestClockLives(t *testing.T) {
	r := rand.New(rand.NewSource(1))
	clocks := []*plat.Clock{plat.NewClock(), plat.NewClock(), plat.NewClock()}
	kept := make([]uint64, len(clocks))
	for range 20000 {
		i := r.Intn(len(clocks))
		now := r.Uint64() >> r.Intn(64)
		off, size := some(r, 0, 4, 0, 4, r.Uint64()>>r.Intn(64)), some(r, 4, 4, 4, 4, some(r, notSizes...))
		v, ok := clocks[i].Read(off, size, now)
		var want uint64
		is := size == 4 && (off == 0 || off == 4)
		if is && off == 0 {
			want, kept[i] = now%(1<<32), now/(1<<32)
		} else if is {
			want = kept[i]
		}
		if v != want || ok != is {
			t.Fatalf("P11.2: Read(%#x, %d, %#x) = %#x, %v, not %#x, %v", off, size, now, v, ok, want, is)
		}
	}
}
