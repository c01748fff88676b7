package ram_test

import (
	"bytes"
	"math"
	"testing"

	"citadel/api"
	"citadel/ram"
)

// wrongSizes are sizes of no number.
var wrongSizes = []int{math.MinInt, -1 << 32, -8, -4, -2, -1, 0, 3, 5, 6, 7, 9, 10, 12, 16, 32, 64, page, 1 << 32, 1<<32 + 1, 1<<32 + 8, math.MaxInt}

var sizes = []int{1, 2, 4, 8}

// P3.2: the chapter's examples, and a number's bytes one by one and in all pieces.
func TestReadExamples(t *testing.T) {
	m := memory(t, page, 1)
	if !m.Write(page, 8, 0x0102030405060708) {
		t.Error("P3.2: Write")
	}
	for _, x := range []struct {
		addr uint64
		size int
		v    uint64
		ok   bool
	}{
		{page + 1, 2, 0x0607, true}, {2*page - 2, 4, 0, false},
		{page, 1, 8, true}, {page, 2, 0x0708, true}, {page, 4, 0x05060708, true}, {page, 8, 0x0102030405060708, true},
		{page + 7, 1, 1, true}, {page + 7, 2, 1, true}, {page + 4, 4, 0x01020304, true}, {page + 3, 4, 0x02030405, true}, {page + 1, 8, 0x01020304050607, true}, {page + 8, 8, 0, true},
		{page, 0, 0, false}, {page, 3, 0, false}, {page - 1, 1, 0, false}, {page - 1, 8, 0, false},
		{2*page - 1, 1, 0, true}, {2*page - 1, 2, 0, false}, {2*page - 8, 8, 0, true}, {2*page - 7, 8, 0, false}, {2 * page, 1, 0, false},
		{top, 1, 0, false}, {top, 2, 0, false}, {top - 7, 8, 0, false}, {top - 6, 8, 0, false},
	} {
		if v, ok := m.Read(x.addr, x.size); v != x.v || ok != x.ok {
			t.Errorf("P3.2: Read(%#x, %d) = %#x, %v", x.addr, x.size, v, ok)
		}
	}
}

// P3.2: a number is without sign, and only v's low bytes count (R5).
func TestWriteLowBytes(t *testing.T) {
	for _, x := range []struct {
		size int
		v    uint64
		want uint64
	}{
		{1, top, 0xff}, {2, top, 0xffff}, {4, top, 0xffffffff}, {8, top, top},
		{1, 0xff00, 0}, {2, 0xff0000, 0}, {4, 0xff << 32, 0}, {1, 0x180, 0x80}, {2, 0x18000, 0x8000}, {4, 0x180000000, 0x80000000}, {8, 1 << 63, 1 << 63},
	} {
		m := memory(t, 0, 1)
		m.Fill(0, bytes.Repeat([]byte{0x5a}, 32))
		if !m.Write(9, x.size, x.v) {
			t.Errorf("P3.2: Write(9, %d, %#x) is refused", x.size, x.v)
		}
		if v, ok := m.Read(9, x.size); v != x.want || !ok {
			t.Errorf("P3.2: Read(9, %d) of %#x = %#x, %v", x.size, x.v, v, ok)
		}
		if v, _ := m.Read(8, 1); v != 0x5a {
			t.Errorf("P3.4: Write(9, %d) turned byte 8", x.size)
		}
		if v, _ := m.Read(uint64(9+x.size), 8); v != 0x5a5a5a5a5a5a5a5a {
			t.Errorf("P3.4: Write(9, %d) turned what is behind: %#x", x.size, v)
		}
	}
}

// P3.2: any address will do: each one about the ends of a frame and about those of the memory; in a memory that was written, and in one that was not.
func TestNumbersAnywhere(t *testing.T) {
	for _, was := range []byte{0, 0xee} {
		for _, size := range sizes {
			for _, addr := range edges(memory(t, 3*page, 2)) {
				numberAt(t, was, addr, size)
			}
		}
	}
}

// numberAt writes one number into a memory whose bytes are all alike, and holds the memory against a plain list.
func numberAt(t *testing.T, was byte, addr uint64, size int) {
	t.Helper()
	const base, v = 3 * page, uint64(0xf1e2d3c4b5a69788)
	m := memory(t, base, 2)
	if was != 0 {
		m.Fill(base, bytes.Repeat([]byte{was}, 2*page))
	}
	want := bytes.Repeat([]byte{was}, 2*page)
	in := addr >= base && addr+uint64(size) <= 5*page && addr <= 5*page
	if _, ok := m.Read(addr, size); ok != in {
		t.Errorf("P3.2: Read(%#x, %d): %v", addr, size, ok)
	}
	if ok := m.Write(addr, size, v); ok != in {
		t.Errorf("P3.2: Write(%#x, %d): %v", addr, size, ok)
	}
	var number uint64
	for i := 0; in && i < size; i++ {
		want[int(addr-base)+i] = byte(v >> (8 * i))
		number |= v & (0xff << (8 * i))
	}
	if got, ok := m.Read(addr, size); got != number || ok != in {
		t.Errorf("P3.2: Read(%#x, %d) = %#x, %v", addr, size, got, ok)
	}
	if !bytes.Equal(all(t, m), want) {
		t.Errorf("P3.4: Write(%#x, %d) left other bytes", addr, size)
	}
}

// P3.2: sizes of no number, and numbers that do not lie within, are refused and change nothing (R2).
func TestNumbersRefused(t *testing.T) {
	m := memory(t, page, 2)
	m.Fill(page, bytes.Repeat([]byte{0xc3}, 2*page))
	refused := func(m *ram.RAM, addr uint64, size int) {
		t.Helper()
		if v, ok := m.Read(addr, size); v != 0 || ok {
			t.Errorf("P3.2: Read(%#x, %d) = %#x, %v", addr, size, v, ok)
		}
		if m.Write(addr, size, 0x1122334455667788) {
			t.Errorf("P3.2: Write(%#x, %d) is taken", addr, size)
		}
	}
	for _, size := range wrongSizes {
		for _, addr := range edges(m) {
			refused(m, addr, size)
		}
	}
	for _, size := range sizes {
		for i := 1; i <= size; i++ {
			refused(m, page-uint64(i), size)
			refused(m, 3*page-uint64(size)+uint64(i), size)
			refused(m, -uint64(i), size)
		}
		refused(m, 0, size)
		refused(m, 1<<63, size)
	}
	if !bytes.Equal(all(t, m), bytes.Repeat([]byte{0xc3}, 2*page)) {
		t.Error("P3.2: what was refused has changed bytes")
	}
}

// P3.2: the last bytes of the greatest memory, from the highest base on.
func TestNumbersAtTheEnd(t *testing.T) {
	m := memory(t, 1<<52, api.MaxFrames)
	end := uint64(1<<52 + api.MaxFrames*page)
	for _, size := range sizes {
		at := end - uint64(size)
		if !m.Write(at, size, top) || m.Write(at+1, size, 0) {
			t.Errorf("P3.2: Write of %d at the end", size)
		}
		if v, ok := m.Read(at, size); v != top>>(64-8*size) || !ok {
			t.Errorf("P3.2: Read(%#x, %d) = %#x, %v", at, size, v, ok)
		}
	}
}
