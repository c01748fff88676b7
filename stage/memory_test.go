package stage_test

import (
	"bytes"
	"math"
	"testing"

	"citadel/api"
	"citadel/stage"
)

// notWidths are sizes that no number has.
var notWidths = []int{0, 3, 5, 6, 7, 9, 10, 12, 16, 32, 64, -1, -2, -4, -8, 1<<32 + 1, 1<<32 + 8, math.MinInt, math.MaxInt}

// memories is a space with memory at the pages 5 to 8, 511 to 512, 2^18 - 1 to 2^18, and the highest: frames apart from one another, falling and rising; 7 and 2^18 are not written, 8 is not read by a Load. All bytes of the frames are unlike.
func memories(t *testing.T, base uint64) (*world, *stage.Space) {
	t.Helper()
	w := newWorld(t, base, 32, 14)
	for f := range 14 {
		b := make([]byte, size)
		for i := range b {
			b[i] = byte(i*7 + f*13 + i/256*31)
		}
		w.m.Fill(w.at(f), b)
	}
	s := w.space(4)
	w.maps(s, []api.Page{
		{Page: 5, Frame: 12, Perm: rw}, {Page: 6, Frame: 10, Perm: rwx}, {Page: 7, Frame: 11, Perm: api.PteR}, {Page: 8, Frame: 2, Perm: api.PteX},
		{Page: 511, Frame: 0, Perm: rw}, {Page: 512, Frame: 13, Perm: rw},
		{Page: 1<<18 - 1, Frame: 4, Perm: rw}, {Page: 1 << 18, Frame: 5, Perm: rx},
		{Page: highest, Frame: 7, Perm: rw},
	}...)
	return w, s
}

// byteOf is the byte of a guest's at an address, by Find and the host's memory, and whether there is one.
func (w *world) byteOf(s *stage.Space, addr uint64) (byte, int, bool) {
	x, ok := s.Find(addr / size)
	if !ok {
		return 0, 0, false
	}
	b, _ := w.m.Read(w.at(x.Frame)+addr%size, 1)
	return byte(b), x.Perm, true
}

// P10.4: Has: n below 0, 0, 1, up to a page's end and beyond, over pages of which one is not mapped, at the end of 2^64.
func TestHas(t *testing.T) {
	_, s := memories(t, size)
	for _, x := range []struct {
		addr uint64
		n    int
		ok   bool
	}{
		{0x5000, -1, false}, {0x5000, math.MinInt, false}, {0x9000, -1, false}, {0, math.MinInt + 1, false}, {ones, -1, false},
		{0x5000, 0, true}, {0x9000, 0, true}, {0, 0, true}, {1 << 39, 0, true}, {ones, 0, true},
		{0x5000, 1, true}, {0x5fff, 1, true}, {0x4fff, 1, false}, {0x9000, 1, false}, {0x8fff, 1, true},
		{0x5000, size, true}, {0x5001, size - 1, true}, {0x5001, size, true}, {0x5000, size + 1, true}, {0x8000, size, true}, {0x8001, size, false}, {0x8000, size + 1, false},
		{0x5000, 4 * size, true}, {0x5000, 4*size + 1, false}, {0x5fff, 3*size + 1, true}, {0x5fff, 3*size + 2, false}, {0x4fff, 2, false}, {0x4fff, 4 * size, false},
		{511 * size, 2 * size, true}, {511 * size, 2*size + 1, false}, {510 * size, 3 * size, false}, {511*size + 1, 2*size - 1, true}, {511*size + 1, 2 * size, false},
		{1<<30 - size, 2 * size, true}, {1<<30 - size, 2*size + 1, false}, {1<<30 - size - 1, 2, false},
		{1<<39 - size, size, true}, {1<<39 - size, size + 1, false}, {1<<39 - 1, 1, true}, {1<<39 - 1, 2, false}, {1 << 39, 1, false}, {1<<39 + 0x5000, 1, false},
		{ones, 1, false}, {ones, 2, false}, {ones, 0x6000, false}, {ones - size + 1, size, false}, {1<<63 + 0x5000, 1, false}, {ones - 0xfff, 0x5001, false},
		{0x5000, math.MaxInt, false}, {0x8fff, math.MaxInt, false}, {1<<39 - 1, math.MaxInt, false}, {ones, math.MaxInt, false},
	} {
		if ok := s.Has(x.addr, x.n); ok != x.ok {
			t.Errorf("P10.4: Has(%#x, %d) = %v", x.addr, x.n, ok)
		}
	}
}

// P10.4: Has over every number of bytes around the ends of pages, against byte by byte.
func TestHasByteByByte(t *testing.T) {
	w, s := memories(t, 0)
	for _, end := range []uint64{5, 6, 7, 8, 9, 511, 512, 513, 1 << 18, 1<<18 + 1, highest, 1 << 27} {
		for from := end*size - 9; from < end*size+9; from++ {
			want := true
			for n := range 20 {
				if s.Has(from, n) != want {
					t.Fatalf("P10.4: Has(%#x, %d) = %v", from, n, !want)
				}
				_, _, ok := w.byteOf(s, from+uint64(n))
				want = want && ok
			}
		}
	}
}

// P10.4: a page in the middle that is taken away, and mapped again.
func TestHasBehindUnmap(t *testing.T) {
	w, s := memories(t, 0)
	s.Unmap(6)
	for _, x := range []struct {
		addr uint64
		n    int
		ok   bool
	}{{0x5000, size, true}, {0x5000, size + 1, false}, {0x5000, 3 * size, false}, {0x6000, 1, false}, {0x6000, 0, true}, {0x7000, 2 * size, true}} {
		if s.Has(x.addr, x.n) != x.ok {
			t.Errorf("P10.4: Has(%#x, %d) = %v", x.addr, x.n, !x.ok)
		}
	}
	if _, ok := s.Read(0x5fff, 2); ok || s.Write(0x5fff, 2, 1) {
		t.Error("P10.4: half of a number is read or written")
	}
	w.maps(s, api.Page{Page: 6, Frame: 3, Perm: api.PteX})
	if !s.Has(0x5000, 3*size) {
		t.Error("P10.4: Has, of a page that is mapped again")
	}
	if v, ok := s.Read(0x6000, 1); !ok || v != uint64(w.all()[3*size]) {
		t.Errorf("P10.4: Read(0x6000, 1) = %#x, %v", v, ok)
	}
}

// reads fails if Read is not the number of its bytes, the lowest first, or 0 and false where one is missing.
func (w *world) reads(s *stage.Space, addr uint64, n int) bool {
	w.t.Helper()
	var want uint64
	all := true
	for i := range n {
		b, _, ok := w.byteOf(s, addr+uint64(i))
		want, all = want|uint64(b)<<(8*i), all && ok
	}
	if !all {
		want = 0
	}
	if v, ok := s.Read(addr, n); v != want || ok != all {
		w.t.Fatalf("P10.4: Read(%#x, %d) = %#x, %v, not %#x, %v", addr, n, v, ok, want, all)
	}
	return all
}

// writes fails if Write is not taken just where all its bytes may be written, or turns other bytes than these.
func (w *world) writes(s *stage.Space, addr uint64, n int, v uint64) bool {
	w.t.Helper()
	want := w.all()
	may := true
	for i := range uint64(n) {
		_, perm, ok := w.byteOf(s, addr+i)
		may = may && ok && perm&api.PteW != 0
	}
	if may {
		for i := range uint64(n) {
			x, _ := s.Find((addr + i) / size)
			want[uint64(x.Frame)*size+(addr+i)%size] = byte(v >> (8 * i))
		}
	}
	if ok := s.Write(addr, n, v); ok != may {
		w.t.Fatalf("P10.4: Write(%#x, %d) = %v", addr, n, ok)
	}
	if !bytes.Equal(w.all(), want) {
		w.t.Fatalf("P10.4: Write(%#x, %d, %#x), taken: %v, turns other bytes", addr, n, v, may)
	}
	return may
}

// P10.4: numbers of all sizes at all places around the ends of pages: in one page, over two whose frames lie apart, where one is not mapped, is not written, is not read by a Load.
func TestReadAndWrite(t *testing.T) {
	for _, base := range bases {
		w, s := memories(t, base)
		var read, refused, written, refusedWrites, v uint64 = 0, 0, 0, 0, 0x0123456789abcdef
		for _, end := range []uint64{5, 6, 7, 8, 9, 511, 512, 513, 1 << 18, 1<<18 + 1, highest, 1 << 27} {
			for from := end*size - 9; from < end*size+2; from++ {
				for _, n := range []int{1, 2, 4, 8} {
					if w.reads(s, from, n) {
						read++
					} else {
						refused++
					}
					v = v*0x5851f42d4c957f2d + 12345
					if w.writes(s, from, n, v) {
						written++
					} else {
						refusedWrites++
					}
					w.reads(s, from, n)
				}
			}
		}
		if read < 100 || refused < 100 || written < 100 || refusedWrites < 100 {
			t.Errorf("read %d, refused %d, written %d, refused %d", read, refused, written, refusedWrites)
		}
	}
}

// P10.4: the same over two pages that are one frame, and over frames that lie the other way round.
func TestTwoPagesOneFrame(t *testing.T) {
	w := newWorld(t, size, 10, 3)
	s := w.space(1)
	w.maps(s, api.Page{Page: 20, Frame: 1, Perm: rw}, api.Page{Page: 21, Frame: 1, Perm: rw}, api.Page{Page: 22, Frame: 0, Perm: rw})
	if !s.Write(21*size-4, 8, 0x1122334455667788) {
		t.Fatal("P10.4: Write")
	}
	first, _ := w.m.Read(w.at(1), 4)
	last, _ := w.m.Read(w.at(2)-4, 4)
	if first != 0x11223344 || last != 0x55667788 {
		t.Errorf("P10.4: the ends of the frame are %#x, %#x", first, last)
	}
	w.reads(s, 21*size-4, 8)
	w.writes(s, 22*size-1, 8, 0x99aabbccddeeff00)
	w.reads(s, 22*size-3, 4)
}

// P10.4: sizes that are none, wherever: 0 and false; nothing changes.
func TestNoWidth(t *testing.T) {
	w, s := memories(t, 0)
	was := w.shot(s)
	for _, addr := range []uint64{0x5000, 0x5ffe, 0x6008, 0x7000, 0x9000, 0, 1<<39 - 4, ones} {
		for _, n := range notWidths {
			if v, ok := s.Read(addr, n); v != 0 || ok {
				t.Errorf("P10.4: Read(%#x, %d) = %#x, %v", addr, n, v, ok)
			}
			if s.Write(addr, n, ones) {
				t.Errorf("P10.4: Write(%#x, %d)", addr, n)
			}
		}
	}
	w.still("R2", was, s)
}

// P10.4: addresses where nothing is, up to the last of 2^64: 0 and false; nothing changes. Those beyond are not there, though page 0 is mapped.
func TestNowhere(t *testing.T) {
	w, s := memories(t, 0)
	w.maps(s, api.Page{Page: 0, Frame: 1, Perm: rwx})
	was := w.shot(s)
	for _, addr := range []uint64{0x1000, 0x4ff9, 0x9000, 1 << 39, 1<<39 + 0x5000, 1 << 51, 1<<63 + 0x5000, ones - 7, ones - 6, ones - 3, ones - 1, ones} {
		for _, n := range []int{1, 2, 4, 8} {
			if v, ok := s.Read(addr, n); v != 0 || ok {
				t.Errorf("P10.4: Read(%#x, %d) = %#x, %v", addr, n, v, ok)
			}
			if s.Write(addr, n, ones) || s.Has(addr, n) {
				t.Errorf("P10.4: Write or Has of %#x, %d", addr, n)
			}
		}
	}
	w.still("R2", was, s)
}

// P10.4: rights as Protect turns them count at once; a Read asks for none.
func TestMemoryRights(t *testing.T) {
	w, s := memories(t, 0)
	for _, perm := range perms {
		s.Protect(6, perm)
		for _, addr := range []uint64{0x5ff8, 0x5ffc, 0x5fff, 0x6000, 0x6ff8} {
			if !w.reads(s, addr, 8) {
				t.Errorf("P10.4: Read(%#x, 8), with the rights %#x", addr, perm)
			}
			want := perm&api.PteW != 0 || addr == 0x5ff8
			if w.writes(s, addr, 8, 0xa5a5a5a5a5a5a5a5) != want {
				t.Errorf("P10.4: Write(%#x, 8), with the rights %#x", addr, perm)
			}
		}
	}
}

// P10.4: where bytes go is found ahead of the first that is written, though a page is one of the tables: 510 is the table of level 0, whose last entry is that of 511.
func TestWriteOverItsOwnTable(t *testing.T) {
	w := newWorld(t, 0, 8, 2)
	s := w.space(1)
	w.maps(s, api.Page{Page: 510, Frame: 4, Perm: rw}, api.Page{Page: 511, Frame: 1, Perm: rw})
	w.has(s, 2, 3, 4)
	if !s.Write(511*size-4, 8, 0x1122334400000000) {
		t.Fatal("P10.4: Write")
	}
	if v, _ := w.m.Read(w.at(1), 4); v != 0x11223344 {
		t.Errorf("P10.4: frame 1 begins with %#x", v)
	}
	if !s.Write(510*size+8*511, 8, 0) {
		t.Fatal("P10.4: Write")
	}
	w.tells(s, api.Page{Page: 510, Frame: 4, Perm: rw})
}

// R1: tables that somebody has written over are gone through all the same: every call ends, and none panics.
func TestTablesWrittenOver(t *testing.T) {
	for _, e := range []uint64{0, 1, ones, ones &^ 1, 2<<10 | 1, 3<<10 | 1, 2<<10 | 0xdf, 1<<53 | 1, 1<<53 | 0xdf, 1<<63 | 1, 8<<10 | 1, 8<<10 | 0xdf} {
		for f := 2; f < 5; f++ {
			w := newWorld(t, size, 8, 2)
			s := w.space(1)
			w.maps(s, api.Page{Page: 0, Frame: 1, Perm: rw}, api.Page{Page: 1, Frame: 0, Perm: rw})
			for _, at := range []uint64{0, 1, 511} {
				w.m.Write(w.at(f)+8*at, 8, e)
			}
			s.Pages()
			for _, number := range []uint64{0, 1, 511, 512, 1 << 18, highest} {
				s.Find(number)
				s.Has(number*size, 3*size)
				s.Read(number*size+size-1, 8)
				s.Write(number*size+size-1, 8, 0)
				s.Protect(number, rx)
				s.Unmap(number)
				s.Map(number, 1, rw)
			}
			s.Destroy()
		}
	}
}

// P10.6: the tables alone say what is mapped: whatever low bits somebody writes into an entry of level 0, it is a page just where page.Guest says so; higher up neither a leaf nor an entry without PteV is a table, or a page of this layer's.
func TestTablesAloneSay(t *testing.T) {
	for low := range uint64(16) {
		w := newWorld(t, size, 8, 2)
		s := w.space(1)
		w.maps(s, api.Page{Page: 5, Frame: 1, Perm: rw})
		w.m.Write(w.at(4)+8*6, 8, w.number(0)<<10|0xd0|low)
		want := []api.Page{{Page: 5, Frame: 1, Perm: rw}}
		if perm := int(low &^ 1); low&1 == 1 && isPerm(perm) {
			want = append(want, api.Page{Page: 6, Frame: 0, Perm: perm})
		}
		w.tells(s, want...)
	}
	for _, bits := range []uint64{0, 0xd0, 0xd0 | rwx, 0xd1 | api.PteR, 0xd1 | api.PteX, 0xd1 | rwx} {
		for _, f := range []int{2, 3} {
			w := newWorld(t, size, 8, 2)
			s := w.space(1)
			w.maps(s, api.Page{Page: 5, Frame: 1, Perm: rw})
			w.m.Write(w.at(f), 8, w.number(f+1)<<10|bits)
			if _, ok := s.Find(5); ok || len(s.Pages()) != 0 || s.Has(5*size, 1) {
				t.Errorf("P10.6: a page below the entry %#x in frame %d", bits, f)
			}
			if got, e := s.Unmap(0); got != 0 || e != api.ErrNotMap {
				t.Errorf("P10.6: Unmap(0) below the entry %#x in frame %d: %d, %d", bits, f, got, e)
			}
		}
	}
}
