package stage_test

import (
	"testing"

	"citadel/api"
)

// P10.3: the chapter's own example.
func TestExample(t *testing.T) {
	w := newWorld(t, 0, 16, 4)
	s := w.space(1)
	if s.Root() != 4 {
		t.Errorf("P10.2: Root = %d", s.Root())
	}
	if e := s.Map(0x80000, 9, rw); e != api.OK {
		t.Errorf("P10.3: Map = %d", e)
	}
	w.has(s, 4, 5, 6)
	w.tells(s, api.Page{Page: 0x80000, Frame: 9, Perm: rw})
	if e := s.Map(0x80000, 9, rw); e != api.ErrMapped {
		t.Errorf("P10.3: Map once more = %d", e)
	}
	if f, e := s.Unmap(0x80000); f != 9 || e != api.OK {
		t.Errorf("P10.3: Unmap = %d, %d", f, e)
	}
}

// P10.3: every byte that a first Map turns: two tables, cleared whatever stood there, the one of level 1 first, and three entries.
func TestMapTurnsJustThat(t *testing.T) {
	for _, base := range bases {
		for _, number := range []uint64{0, 1, 511, 512, 0x80000, 0x12345, 1<<18 - 1, 1 << 18, highest} {
			for _, perm := range perms {
				w := newWorld(t, base, 9, 2)
				s := w.space(3)
				w.p.Take(1) // so that the tables lie apart from the root
				for _, f := range w.free() {
					w.m.Fill(w.at(f), []byte{1, 2, 3, 255})
					w.m.Fill(w.at(f)+size-4, []byte{1, 2, 3, 255})
				}
				want, _ := w.m.Bytes(base, 9*size)
				was := w.shot()
				w.maps(s, api.Page{Page: number, Frame: 8, Perm: perm})
				put := func(f int, i, e uint64) {
					for k := range 8 {
						want[uint64(f)*size+8*i+uint64(k)] = byte(e >> (8 * k))
					}
				}
				clear(want[4*size : 6*size])
				put(2, number>>18, w.number(4)<<10|1)
				put(4, number>>9%512, w.number(5)<<10|1)
				put(5, number%512, w.number(8)<<10|0xd1|uint64(perm))
				was.bytes, was.owners[4], was.owners[5] = want, api.Monitor, api.Monitor
				w.still("P10.3", was)
				w.has(s, 2, 4, 5)
				w.tells(s, api.Page{Page: number, Frame: 8, Perm: perm})
			}
		}
	}
}

// P10.3: pages that share a table of level 0, or of level 1, or none: which tables they want, and in which order.
func TestTablesWanted(t *testing.T) {
	w := newWorld(t, api.RamBase, 20, 3)
	s := w.space(1)
	for _, x := range []struct {
		page   uint64
		tables []int
	}{
		{0, []int{3, 4, 5}},
		{511, []int{3, 4, 5}},
		{512, []int{3, 4, 5, 6}},
		{1<<18 - 1, []int{3, 4, 5, 6, 7}},
		{1<<18 - 2, []int{3, 4, 5, 6, 7}},
		{1 << 18, []int{3, 4, 5, 6, 7, 8, 9}},
		{1<<18 + 511, []int{3, 4, 5, 6, 7, 8, 9}},
		{1<<18 + 512, []int{3, 4, 5, 6, 7, 8, 9, 10}},
		{1, []int{3, 4, 5, 6, 7, 8, 9, 10}},
		{highest, []int{3, 4, 5, 6, 7, 8, 9, 10, 11, 12}},
		{highest - 511, []int{3, 4, 5, 6, 7, 8, 9, 10, 11, 12}},
		{highest - 512, []int{3, 4, 5, 6, 7, 8, 9, 10, 11, 12, 13}},
	} {
		w.maps(s, api.Page{Page: x.page, Frame: 1, Perm: rwx})
		w.has(s, x.tables...)
		w.found(s, x.page, api.Page{Page: x.page, Frame: 1, Perm: rwx}, true)
	}
	var want []api.Page
	for _, number := range []uint64{0, 1, 511, 512, 1<<18 - 2, 1<<18 - 1, 1 << 18, 1<<18 + 511, 1<<18 + 512, highest - 512, highest - 511, highest} {
		want = append(want, api.Page{Page: number, Frame: 1, Perm: rwx})
	}
	w.tells(s, want...)
	if w.p.Count(api.Monitor) != 3+11 {
		t.Errorf("P10.3: %d frames are the monitor's", w.p.Count(api.Monitor))
	}
}

// P10.3: tables are taken where frames are free, though these lie ahead of the root and apart.
func TestTablesAnywhere(t *testing.T) {
	w := newWorld(t, 0, 10, 1)
	for range 6 {
		w.p.Take(2)
	}
	s := w.space(1)
	for _, f := range []int{2, 5} {
		w.p.Release(f)
	}
	for hart := range 2 {
		w.p.Ack(hart)
	}
	w.p.AckDevices()
	w.maps(s, api.Page{Page: 77, Frame: 0, Perm: rw})
	w.has(s, 7, 2, 5)
	w.maps(s, api.Page{Page: 77 + 512, Frame: 9, Perm: rx})
	w.has(s, 7, 2, 5, 8)
	w.tells(s, api.Page{Page: 77, Frame: 0, Perm: rw}, api.Page{Page: 77 + 512, Frame: 9, Perm: rx})
}

// P10.3: so many free frames, and so many tables that are wanted: too few is ErrFrames, and none is taken then; just enough is enough.
func TestTooFewFrames(t *testing.T) {
	for free := range 5 {
		for _, x := range []struct {
			have   []uint64 // mapped ahead
			page   uint64
			wanted int
		}{
			{nil, 5, 2},
			{[]uint64{5}, 6, 0},
			{[]uint64{5}, 5 + 512, 1},
			{[]uint64{5}, 5 + 1<<18, 2},
			{[]uint64{5}, highest, 2},
			{[]uint64{5, 1 << 18}, 1<<18 + 512, 1},
			{[]uint64{5, 1 << 18}, 1<<18 + 511, 0},
			{[]uint64{highest}, highest - 512, 1},
		} {
			w := newWorld(t, size, 24, 1)
			s := w.space(1)
			for _, number := range x.have {
				w.maps(s, api.Page{Page: number, Frame: 0, Perm: rw})
			}
			w.leaves(free)
			was, tables := w.shot(s), s.Tables()
			e := s.Map(x.page, 0, rwx)
			if free < x.wanted {
				if e != api.ErrFrames {
					t.Errorf("P10.3: Map(%#x) behind %x, %d frames free: %d", x.page, x.have, free, e)
				}
				w.still("R2", was, s)
				continue
			}
			if e != api.OK {
				t.Errorf("P10.3: Map(%#x) behind %x, %d frames free: %d", x.page, x.have, free, e)
			}
			w.has(s, append(tables, []int{24 - free, 25 - free}[:x.wanted]...)...)
			w.found(s, x.page, api.Page{Page: x.page, Frame: 0, Perm: rwx}, true)
			if w.p.Count(api.Free) != free-x.wanted {
				t.Errorf("P10.3: %d frames are free, not %d", w.p.Count(api.Free), free-x.wanted)
			}
		}
	}
}

// P10.3: pages, frames and rights that are none: ErrArg, and nothing changes; on an empty space, and where the page is mapped; with free frames and without.
func TestMapOfNone(t *testing.T) {
	for _, have := range []bool{false, true} {
		for _, free := range []int{0, 5} {
			w := newWorld(t, size, 12, 1)
			s := w.space(1)
			if have {
				w.maps(s, api.Page{Page: 5, Frame: 3, Perm: rw})
			}
			w.leaves(free)
			was := w.shot(s)
			refused := func(number uint64, frame, perm int) {
				t.Helper()
				if e := s.Map(number, frame, perm); e != api.ErrArg {
					t.Errorf("P10.3: Map(%#x, %d, %#x) = %d", number, frame, perm, e)
				}
			}
			for _, number := range notPages {
				refused(number, 3, rw)
			}
			for _, f := range notFrames(12) {
				refused(5, f, rw)
				refused(6, f, rw)
			}
			for _, perm := range notPerms() {
				refused(5, 3, perm)
				refused(6, 3, perm)
			}
			refused(ones, -1, -1)
			w.still("R2", was, s)
		}
	}
}

// P10.3: every frame of the memory can be mapped: the first, the last, a reserved one, a free one, a guest's, one in limbo, a table's.
func TestMapAnyFrame(t *testing.T) {
	for _, base := range bases {
		w := newWorld(t, base, 12, 2)
		s := w.space(1)
		w.p.Take(1)
		w.p.Take(2)
		w.p.Release(3)
		var want []api.Page
		for f := range 12 {
			x := api.Page{Page: 100 + uint64(f), Frame: f, Perm: perms[f%len(perms)]}
			w.maps(s, x)
			want = append(want, x)
			w.tells(s, want...)
		}
		w.has(s, 2, 5, 6)
		for f := range 12 {
			if got, e := s.Unmap(100 + uint64(f)); got != f || e != api.OK {
				t.Errorf("P10.3: Unmap of frame %d: %d, %d", f, got, e)
			}
			w.tells(s, want[f+1:]...)
		}
	}
}

// P10.3: a page that is mapped is not mapped again, whatever is asked for it; and one frame may be many pages.
func TestMapTwice(t *testing.T) {
	for _, free := range []int{0, 1, 4} {
		w := newWorld(t, 0, 14, 2)
		s := w.space(1)
		a, b := api.Page{Page: 5, Frame: 1, Perm: api.PteX}, api.Page{Page: 1 << 18, Frame: 1, Perm: rw}
		w.maps(s, a, b)
		w.leaves(free)
		was := w.shot(s)
		for _, number := range []uint64{5, 1 << 18} {
			for f := range 14 {
				for _, perm := range perms {
					if e := s.Map(number, f, perm); e != api.ErrMapped {
						t.Errorf("P10.3: Map(%#x, %d, %#x) once more: %d", number, f, perm, e)
					}
				}
			}
		}
		w.still("R2", was, s)
		w.tells(s, a, b)
	}
}

// P10.3: as many pages as there may be below one table of level 0, and tables as many as the memory has frames.
func TestMany(t *testing.T) {
	w := newWorld(t, 0, api.MaxFrames, 1)
	s := w.space(1)
	var want []api.Page
	for i := range uint64(512) {
		want = append(want, api.Page{Page: 1024 + i, Frame: int(i), Perm: perms[i%5]})
	}
	for i := range want {
		w.maps(s, want[(i*77)%512])
	}
	w.has(s, 1, 2, 3)
	w.tells(s, want...)
	tables := []int{1, 2, 3}
	for i := uint64(0); i < api.MaxFrames-4; i++ {
		number := 1024 + 512*(i+1)
		if i%7 == 3 {
			number += i % 512
		}
		x := api.Page{Page: number, Frame: 1023, Perm: rw}
		e := s.Map(x.Page, x.Frame, x.Perm)
		if e == api.ErrFrames {
			break
		}
		if e != api.OK {
			t.Fatalf("P10.3: Map(%#x) = %d", number, e)
		}
		want = append(want, x)
	}
	for f := 4; f < api.MaxFrames; f++ {
		tables = append(tables, f)
	}
	w.has(s, tables...)
	if w.p.Count(api.Free) != 0 {
		t.Errorf("P10.3: %d frames are free", w.p.Count(api.Free))
	}
	w.tells(s, want...)
}
