package ram_test

import (
	"bytes"
	"testing"

	"citadel/api"
	"citadel/ram"
)

// P3.3: a copy has its first's base, frames and bytes, written or not.
func TestCopy(t *testing.T) {
	m := memory(t, 7*page, 4)
	m.Fill(8*page-2, counted(page))
	c := m.Copy()
	if c == nil || c == m || c.Base() != 7*page || c.Frames() != 4 {
		t.Fatalf("P3.3: Copy = %v", c)
	}
	if !bytes.Equal(all(t, c), all(t, m)) {
		t.Error("P3.3: the copy has other bytes")
	}
	if c.Has(7*page-1, 1) || c.Has(11*page, 1) || !c.Has(7*page, 4*page) {
		t.Error("P3.1: the copy has another place")
	}
	if e := memory(t, 1<<52, api.MaxFrames).Copy(); e.Base() != 1<<52 || e.Frames() != api.MaxFrames || !bytes.Equal(all(t, e), make([]byte, api.MaxFrames*page)) {
		t.Error("P3.3: the copy of a memory that was never written")
	}
}

// P3.3: whatever is done to one of the two, a copy of the copy among them, the others keep their bytes: in frames that were written ahead of the copy, and in frames that were not.
func TestCopiesHaveNothingInCommon(t *testing.T) {
	const base = 2 * page
	turns := []func(m *ram.RAM) bool{
		func(m *ram.RAM) bool { return m.Write(base, 1, 0x99) },
		func(m *ram.RAM) bool { return m.Write(base+page-4, 8, top) },
		func(m *ram.RAM) bool { return m.Write(base+2*page, 8, top) },
		func(m *ram.RAM) bool { return m.Fill(base, bytes.Repeat([]byte{0x42}, 3*page)) },
		func(m *ram.RAM) bool { return m.Fill(base+2*page+5, []byte{1, 2, 3}) },
		func(m *ram.RAM) bool { return m.Clear(0) },
		func(m *ram.RAM) bool { return m.Clear(2) && m.Write(base+2*page, 1, 1) },
	}
	for i, turn := range turns {
		for who := range 3 {
			m := memory(t, base, 3)
			m.Fill(base, counted(page+page/2))
			want := all(t, m)
			c := m.Copy()
			three := []*ram.RAM{m, c, c.Copy()}
			if !turn(three[who]) || bytes.Equal(all(t, three[who]), want) {
				t.Fatalf("P3.4: turn %d does nothing", i)
			}
			for other := range 3 {
				if other != who && !bytes.Equal(all(t, three[other]), want) {
					t.Errorf("P3.3: turn %d of memory %d has turned memory %d", i, who, other)
				}
			}
		}
	}
}

// R4: two memories of the same arguments have nothing in common either.
func TestMemoriesHaveNothingInCommon(t *testing.T) {
	a, b := memory(t, page, 2), memory(t, page, 2)
	a.Fill(page, counted(2*page))
	if !bytes.Equal(all(t, b), make([]byte, 2*page)) {
		t.Error("R4: one memory was written, the other has turned")
	}
}
