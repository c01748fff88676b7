package ram_test

import (
	"bytes"
	"math"
	"testing"

	"citadel/api"
)

// counted are so many bytes, no two neighbours alike, and none of them 0.
func counted(n int) []byte {
	b := make([]byte, n)
	for i := range b {
		b[i] = byte(i%251 + 1)
	}
	return b
}

// P3.3: the chapter's example.
func TestBytesExample(t *testing.T) {
	m := memory(t, page, 1)
	m.Write(page, 8, 0x0102030405060708)
	if !m.Fill(page+4, []byte{9, 9}) {
		t.Error("P3.3: Fill")
	}
	if b, ok := m.Bytes(page+3, 3); !ok || !bytes.Equal(b, []byte{5, 9, 9}) {
		t.Errorf("P3.3: Bytes = %x, %v", b, ok)
	}
}

// P3.3: pieces within one frame, over two, over many, and over all; what is around them stays.
func TestFillPieces(t *testing.T) {
	const base, frames = 5 * page, 4
	for _, was := range []byte{0, 0xff} {
		for _, from := range []int{0, 1, page - 1, page, page + 1, 2*page - 3, 3 * page, 4*page - 1, 4 * page} {
			for _, n := range []int{0, 1, 2, 3, 8, page - 1, page, page + 1, 2 * page, 2*page + 2, 3*page + 3, 4 * page} {
				if from+n > frames*page {
					continue
				}
				m, want, in := memory(t, base, frames), bytes.Repeat([]byte{was}, frames*page), counted(n)
				if was != 0 {
					m.Fill(base, want)
				}
				copy(want[from:], in)
				if !m.Fill(base+uint64(from), in) {
					t.Fatalf("P3.3: Fill of %d at %d is refused", n, from)
				}
				if b, ok := m.Bytes(base+uint64(from), n); !ok || !bytes.Equal(b, in) {
					t.Errorf("P3.3: Bytes of %d at %d are not those of Fill; %v", n, from, ok)
				}
				if !bytes.Equal(all(t, m), want) {
					t.Errorf("P3.4: Fill of %d at %d left other bytes", n, from)
				}
			}
		}
	}
}

// P3.3: what does not lie within is refused, and changes nothing, even where it begins within.
func TestPiecesRefused(t *testing.T) {
	m := memory(t, page, 2)
	m.Fill(page, bytes.Repeat([]byte{0x77}, 2*page))
	for _, addr := range edges(m) {
		for _, n := range []int{math.MinInt, math.MinInt + 1, -page, -2, -1, 0, 1, 2, 9, page, page + 1, 2 * page, 2*page + 1, 3 * page, 1 << 40, math.MaxInt} {
			if within(m, addr, n) {
				continue
			}
			if b, ok := m.Bytes(addr, n); len(b) != 0 || ok {
				t.Errorf("P3.3: Bytes(%#x, %d) = %d bytes, %v", addr, n, len(b), ok)
			}
			if n >= 0 && n <= 3*page && m.Fill(addr, make([]byte, n)) {
				t.Errorf("P3.3: Fill(%#x) of %d bytes is taken", addr, n)
			}
		}
	}
	if !bytes.Equal(all(t, m), bytes.Repeat([]byte{0x77}, 2*page)) {
		t.Error("P3.3: what was refused has changed bytes")
	}
}

// P3.3: no bytes lie wherever Has says it of size 0, at the end too; nil and an empty list are one (R3).
func TestNoBytes(t *testing.T) {
	m := memory(t, page, 1)
	for _, addr := range edges(m) {
		in := addr >= page && addr <= 2*page
		if b, ok := m.Bytes(addr, 0); len(b) != 0 || ok != in {
			t.Errorf("P3.3: Bytes(%#x, 0) = %x, %v", addr, b, ok)
		}
		if m.Fill(addr, nil) != in || m.Fill(addr, []byte{}) != in {
			t.Errorf("P3.3: Fill(%#x) of nothing is not %v", addr, in)
		}
	}
}

// R3: what Bytes answers is new memory, spare room too, and what Fill is given is neither changed nor kept.
func TestSlicesAreNotShared(t *testing.T) {
	m := memory(t, page, 2)
	given := counted(page + 40)
	in := given[: page+20 : page+40]
	if !m.Fill(page+2, in) || !bytes.Equal(given, counted(page+40)) {
		t.Error("R3: Fill has changed what it was given")
	}
	want := all(t, m)
	clear(given)
	if !bytes.Equal(all(t, m), want) {
		t.Error("R3: Fill has kept what it was given")
	}
	for _, n := range []int{0, 1, 8, 100, page, page + 20} {
		first, _ := m.Bytes(page+2, n)
		second, _ := m.Bytes(page+2, n)
		for i := range first[:cap(first)] {
			first[:cap(first)][i] = 0xaa
		}
		if !bytes.Equal(second, counted(page + 20)[:n]) {
			t.Errorf("R3: two answers of Bytes, of %d, are one", n)
		}
		if !bytes.Equal(all(t, m), want) {
			t.Errorf("R3: Bytes, of %d, has given the memory's own away", n)
		}
	}
}

// P3.3: Clear makes one frame's bytes 0, as often as it is asked, and no other's.
func TestClear(t *testing.T) {
	const base, frames = 1 << 32, 3
	for frame := range frames {
		m, want := memory(t, base, frames), counted(frames*page)
		m.Fill(base, want)
		clear(want[frame*page : (frame+1)*page])
		for range 2 {
			if !m.Clear(frame) || !bytes.Equal(all(t, m), want) {
				t.Errorf("P3.3: Clear(%d) left other bytes", frame)
			}
		}
		if m.Frames() != frames || m.Base() != base {
			t.Errorf("P3.3: Clear(%d) left %d frames from %#x on", frame, m.Frames(), m.Base())
		}
		at := frame*page + 17
		want[at] = 3
		if !m.Write(base+uint64(at), 1, 3) || !bytes.Equal(all(t, m), want) {
			t.Errorf("P3.4: a byte written behind Clear(%d)", frame)
		}
	}
}

// P3.3: a frame that was never written can be cleared; one that is not there cannot.
func TestClearNumbers(t *testing.T) {
	for _, frames := range []int{1, 2, api.MaxFrames} {
		m := memory(t, 3*page, frames)
		if !m.Clear(0) || !m.Clear(frames-1) {
			t.Errorf("P3.3: of %d frames the first or the last is refused", frames)
		}
		m.Fill(3*page, counted(frames*page))
		for _, frame := range []int{-1, -2, -page, math.MinInt, frames, frames + 1, frames + 3, frames + page, 1 << 32, math.MaxInt} {
			if m.Clear(frame) {
				t.Errorf("P3.3: of %d frames Clear(%d) is taken", frames, frame)
			}
		}
		if !bytes.Equal(all(t, m), counted(frames*page)) {
			t.Errorf("P3.3: of %d frames what was refused has changed bytes", frames)
		}
	}
}
