package ram_test

import (
	"math"
	"math/big"
	"testing"

	"citadel/api"
	"citadel/ram"
)

const (
	page = api.PageSize
	top  = math.MaxUint64
)

// memory is a memory that must come to be.
func memory(t *testing.T, base uint64, frames int) *ram.RAM {
	t.Helper()
	m, e := ram.New(base, frames)
	if e != api.OK || m == nil {
		t.Fatalf("P3.1: New(%#x, %d) = %v, %d", base, frames, m, e)
	}
	return m
}

// all are a memory's bytes.
func all(t *testing.T, m *ram.RAM) []byte {
	t.Helper()
	b, ok := m.Bytes(m.Base(), m.Frames()*page)
	if !ok || len(b) != m.Frames()*page {
		t.Fatalf("P3.3: all bytes: %d of them, %v", len(b), ok)
	}
	return b
}

// P3.1: the first and the last of what may be.
func TestNew(t *testing.T) {
	for _, base := range []uint64{0, page, 3 * page, api.RamBase, 1<<52 - page, 1 << 52} {
		for _, frames := range []int{1, 2, api.MaxFrames - 1, api.MaxFrames} {
			m := memory(t, base, frames)
			if m.Base() != base || m.Frames() != frames {
				t.Errorf("P3.1: New(%#x, %d): Base %#x, Frames %d", base, frames, m.Base(), m.Frames())
			}
			for i, b := range all(t, m) {
				if b != 0 {
					t.Fatalf("P3.1: New(%#x, %d): byte %d is %d", base, frames, i, b)
				}
			}
		}
	}
}

// P3.1: what may not be.
func TestNewRefuses(t *testing.T) {
	for _, x := range []struct {
		base   uint64
		frames int
	}{
		{0, 0}, {0, -1}, {0, math.MinInt}, {0, api.MaxFrames + 1}, {0, math.MaxInt}, {1 << 52, 0}, {1 << 52, api.MaxFrames + 1},
		{1, 1}, {8, 1}, {2048, 1}, {page - 1, 1}, {page + 1, 1}, {3*page + 2048, 1}, {1<<52 - 1, 1}, {1<<52 - 2048, 1},
		{1<<52 + 1, 1}, {1<<52 + page, 1}, {1<<52 + page, api.MaxFrames}, {1 << 53, 1}, {1 << 63, 1}, {top - page + 1, 1}, {top, 1},
		{1, 0}, {top, -1},
	} {
		if m, e := ram.New(x.base, x.frames); m != nil || e != api.ErrArg {
			t.Errorf("P3.1: New(%#x, %d) = %v, %d", x.base, x.frames, m, e)
		}
	}
}

// within tells what Has must, by numbers that know no bound.
func within(m *ram.RAM, addr uint64, size int) bool {
	from, base := new(big.Int).SetUint64(addr), new(big.Int).SetUint64(m.Base())
	end := new(big.Int).Add(from, big.NewInt(int64(size)))
	last := new(big.Int).Add(base, big.NewInt(int64(m.Frames())*page))
	return size >= 0 && from.Cmp(base) >= 0 && end.Cmp(last) <= 0
}

// edges are the addresses about a memory's ends, and about those of all addresses.
func edges(m *ram.RAM) []uint64 {
	var out []uint64
	last := m.Base() + uint64(m.Frames())*page
	for _, near := range []uint64{0, m.Base(), m.Base() + page, last - page, last, last + page, 1 << 32, 1 << 52, 1 << 63, m.Base() + 1<<63} {
		for d := uint64(0); d <= 9; d++ {
			out = append(out, near+d, near-d)
		}
	}
	return out
}

// P3.1: at the ends of memories, with all sizes that bear on them.
func TestHas(t *testing.T) {
	for _, x := range []struct {
		base   uint64
		frames int
	}{{0, 1}, {0, api.MaxFrames}, {page, 1}, {api.RamBase, 2}, {1 << 52, api.MaxFrames}} {
		m := memory(t, x.base, x.frames)
		room := x.frames * page
		for _, addr := range edges(m) {
			for _, size := range []int{math.MinInt, math.MinInt + 1, -page, -8, -1, 0, 1, 2, 3, 4, 5, 7, 8, 9, page - 1, page, page + 1, room - 1, room, room + 1, 1 << 32, 1 << 52, 1<<62 + page, math.MaxInt - 1, math.MaxInt} {
				if got, want := m.Has(addr, size), within(m, addr, size); got != want {
					t.Errorf("P3.1: of %#x and %d frames: Has(%#x, %d) = %v", x.base, x.frames, addr, size, got)
				}
			}
		}
	}
}

// P3.1: the edges that the document names, written out.
func TestHasExamples(t *testing.T) {
	m := memory(t, page, 1)
	for _, x := range []struct {
		addr uint64
		size int
		want bool
	}{
		{page, page, true}, {page, page + 1, false}, {page, 0, true}, {page, -1, false},
		{2*page - 1, 1, true}, {2*page - 1, 0, true}, {2*page - 1, 2, false},
		{2 * page, 0, true}, {2 * page, 1, false}, {2*page + 1, 0, false},
		{page - 1, 0, false}, {page - 1, 1, false}, {page - 1, 2, false}, {0, 0, false}, {0, 2 * page, false},
		{top, 0, false}, {top, 1, false}, {top, 2*page + 1, false}, {top - page, 3 * page, false}, {top - 7, 8, false}, {top - 7, page + 8, false}, {1 << 63, math.MaxInt, false},
	} {
		if got := m.Has(x.addr, x.size); got != x.want {
			t.Errorf("P3.1: Has(%#x, %d) = %v", x.addr, x.size, got)
		}
	}
}
