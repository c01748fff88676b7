package ram

import (
	"testing"

	"citadel/api"
)

// there is how many frames are there.
func there(m *RAM) int {
	n := 0
	for _, f := range m.frames {
		if f != nil {
			n++
		}
	}
	return n
}

// Ways: frames that were never written are not there; reading, clearing, copying and what is refused makes none.
func TestFramesAreMadeWhenWritten(t *testing.T) {
	const page = api.PageSize
	m, _ := New(page, api.MaxFrames)
	end := uint64(page + api.MaxFrames*page)
	for i, x := range []struct {
		do   func() bool
		want int
	}{
		{func() bool { return m.Has(page, page) }, 0},
		{func() bool { _, ok := m.Read(page, 8); return ok }, 0},
		{func() bool { _, ok := m.Bytes(page, api.MaxFrames*page); return ok }, 0},
		{func() bool { return m.Fill(page, nil) }, 0},
		{func() bool { return m.Fill(end, nil) }, 0},
		{func() bool { return m.Clear(3) }, 0},
		{func() bool { return !m.Write(end-4, 8, 1) }, 0},
		{func() bool { return !m.Write(page, 3, 1) }, 0},
		{func() bool { return !m.Fill(end-page, make([]byte, page+1)) }, 0},
		{func() bool { return m.Copy().Write(page, 1, 1) }, 0},
		{func() bool { return m.Write(page, 8, 1) }, 1},
		{func() bool { return m.Write(page, 1, 2) }, 1},
		{func() bool { return there(m.Copy()) == 1 }, 1},
		{func() bool { return m.Write(4*page-4, 8, 1) }, 3},
		{func() bool { return m.Fill(9*page, make([]byte, page)) }, 4},
		{func() bool { return m.Clear(0) }, 3},
	} {
		if ok := x.do(); !ok || there(m) != x.want {
			t.Errorf("%d: %v, and %d frames are there, not %d", i, ok, there(m), x.want)
		}
	}
}
