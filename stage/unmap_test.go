package stage_test

import (
	"bytes"
	"slices"
	"testing"

	"citadel/api"
	"citadel/stage"
)

// few are pages that share tables with one another in every way, rising.
var few = []api.Page{{Page: 0, Frame: 9, Perm: rw}, {Page: 5, Frame: 0, Perm: api.PteX}, {Page: 6, Frame: 9, Perm: rwx}, {Page: 511, Frame: 1, Perm: api.PteR}, {Page: 512, Frame: 2, Perm: rx}, {Page: 1 << 18, Frame: 19, Perm: rw}, {Page: highest, Frame: 18, Perm: rwx}}

// fewWorld is a space with these pages.
func fewWorld(t *testing.T, base uint64) (*world, *stage.Space) {
	t.Helper()
	w := newWorld(t, base, 20, 3)
	s := w.space(1)
	w.maps(s, few...)
	w.tells(s, few...)
	return w, s
}

// turned are the words of 8 bytes that are others than they were, counted from the memory's base on.
func (w *world) turned(was []byte) []int {
	w.t.Helper()
	var list []int
	now := w.all()
	for i := 0; i < len(now); i += 8 {
		if !bytes.Equal(now[i:i+8], was[i:i+8]) {
			list = append(list, i/8)
		}
	}
	return list
}

// without is few, but for one.
func without(i int) []api.Page { return slices.Delete(slices.Clone(few), i, i+1) }

// P10.3: Unmap tells the frame, and turns the one entry, which is 0 then; tables and all other pages stay. The page can be mapped again, without a frame that is free.
func TestUnmap(t *testing.T) {
	for _, base := range bases {
		for i, x := range few {
			w, s := fewWorld(t, base)
			was := w.shot()
			if f, e := s.Unmap(x.Page); f != x.Frame || e != api.OK {
				t.Fatalf("P10.3: Unmap(%#x) = %d, %d, not %d", x.Page, f, e, x.Frame)
			}
			w.tells(s, without(i)...)
			w.has(s, 3, 4, 5, 6, 7, 8, 9, 10)
			turned := w.turned(was.bytes)
			if len(turned) != 1 || turned[0]%512 != int(x.Page%512) {
				t.Fatalf("P10.3: Unmap(%#x) turns the words %v", x.Page, turned)
			}
			if e := w.entry(turned[0]/512, x.Page%512); e != 0 {
				t.Fatalf("P10.3: the entry of %#x is %#x", x.Page, e)
			}
			w.leaves(0)
			again := x
			again.Frame, again.Perm = 17, api.PteX
			w.maps(s, again)
			w.tells(s, append(append(slices.Clone(few[:i]), again), few[i+1:]...)...)
			w.has(s, 3, 4, 5, 6, 7, 8, 9, 10)
		}
	}
}

// P10.3: what is not mapped is not unmapped: unmapped before, never mapped (with tables and without), no page at all; and nothing changes.
func TestUnmapOfNone(t *testing.T) {
	w, s := fewWorld(t, size)
	if f, e := s.Unmap(5); f != 0 || e != api.OK {
		t.Fatalf("P10.3: Unmap(5) = %d, %d", f, e)
	}
	was := w.shot(s)
	for _, number := range append([]uint64{5, 1, 4, 7, 510, 513, 1023, 1024, 1<<18 - 1, 1<<18 + 5, 1<<18 + 512, 1 << 19, highest - 1, highest - 512, highest - 1<<18}, notPages...) {
		for range 2 {
			if f, e := s.Unmap(number); f != 0 || e != api.ErrNotMap {
				t.Errorf("P10.3: Unmap(%#x) = %d, %d", number, f, e)
			}
		}
	}
	w.still("R2", was, s)
	w.tells(s, without(1)...)
}

// P10.3: a space that was never mapped anything has nothing to unmap, to protect, to tell.
func TestEmpty(t *testing.T) {
	w := newWorld(t, 0, 5, 1)
	s := w.space(15)
	was := w.shot(s)
	for _, number := range append([]uint64{0, 1, 5, 512, 1 << 18, highest}, notPages...) {
		if f, e := s.Unmap(number); f != 0 || e != api.ErrNotMap {
			t.Errorf("P10.3: Unmap(%#x) = %d, %d", number, f, e)
		}
		if e := s.Protect(number, rw); number <= highest && e != api.ErrNotMap || number > highest && e != api.ErrArg {
			t.Errorf("P10.3: Protect(%#x) = %d", number, e)
		}
	}
	w.still("R2", was, s)
	w.tells(s)
	w.has(s, 1)
}

// P10.3: Protect turns a page's rights, from any to any, and nothing else.
func TestProtect(t *testing.T) {
	for _, base := range bases {
		for i, x := range few {
			w, s := fewWorld(t, base)
			w.leaves(0)
			owners := w.shot().owners
			for _, from := range perms {
				for _, to := range perms {
					for _, perm := range []int{from, to} {
						if e := s.Protect(x.Page, perm); e != api.OK {
							t.Fatalf("P10.3: Protect(%#x, %#x) = %d", x.Page, perm, e)
						}
						want := slices.Clone(few)
						want[i].Perm = perm
						if got := s.Pages(); !slices.Equal(got, want) {
							t.Fatalf("P10.3: behind Protect(%#x, %#x): %v", x.Page, perm, got)
						}
						w.found(s, x.Page, want[i], true)
					}
				}
			}
			w.has(s, 3, 4, 5, 6, 7, 8, 9, 10)
			if !slices.Equal(w.shot().owners, owners) {
				t.Error("P10.3: Protect turns owners")
			}
			s.Protect(x.Page, x.Perm)
			w.tells(s, few...)
		}
	}
}

// P10.3: the entry behind Protect is, bit by bit, that of a page mapped so.
func TestProtectEntry(t *testing.T) {
	for _, to := range perms {
		w := newWorld(t, 1<<52, 8, 1)
		s := w.space(1)
		w.maps(s, api.Page{Page: 5, Frame: 7, Perm: rwx})
		s.Protect(5, to)
		if e := w.entry(3, 5); e != w.number(7)<<10|0xd1|uint64(to) {
			t.Errorf("P10.3: Protect(5, %#x): the entry is %#x", to, e)
		}
	}
}

// P10.3: pages and rights that are none: ErrArg, ahead of ErrNotMap; a page that is not mapped: ErrNotMap; and nothing changes.
func TestProtectRefused(t *testing.T) {
	w, s := fewWorld(t, 0)
	was := w.shot(s)
	refused := func(number uint64, perm int, want api.Errno) {
		t.Helper()
		if e := s.Protect(number, perm); e != want {
			t.Errorf("P10.3: Protect(%#x, %#x) = %d, not %d", number, perm, e, want)
		}
	}
	for _, number := range notPages {
		for _, perm := range append(slices.Clone(perms), 0, -1) {
			refused(number, perm, api.ErrArg)
		}
	}
	for _, perm := range notPerms() {
		for _, number := range []uint64{0, 1, 5, 1<<18 + 1, 1 << 20, highest} {
			refused(number, perm, api.ErrArg)
		}
	}
	for _, number := range []uint64{1, 4, 7, 510, 513, 1024, 1<<18 - 1, 1<<18 + 1, 1<<18 + 512, 1 << 20, highest - 1} {
		for _, perm := range perms {
			refused(number, perm, api.ErrNotMap)
		}
	}
	w.still("R2", was, s)
	s.Unmap(6)
	refused(6, rw, api.ErrNotMap)
	refused(6, 0, api.ErrArg)
}

// R3: lists that are told are new memory, spare room too.
func TestListsAreNew(t *testing.T) {
	w, s := fewWorld(t, 0)
	pages, tables := s.Pages(), s.Tables()
	for i := range pages[:cap(pages)] {
		pages[:cap(pages)][i] = api.Page{Page: 99, Frame: 99, Perm: 99}
	}
	for i := range tables[:cap(tables)] {
		tables[:cap(tables)][i] = 99
	}
	w.tells(s, few...)
	w.has(s, 3, 4, 5, 6, 7, 8, 9, 10)
	one, two := s.Tables(), s.Tables()
	one[:cap(one)][cap(one)-1] = -7
	if slices.Contains(two[:cap(two)], -7) {
		t.Error("R3: two lists of tables share memory")
	}
	w.maps(s, api.Page{Page: 1 << 20, Frame: 2, Perm: rw})
	w.has(s, 3, 4, 5, 6, 7, 8, 9, 10, 11, 12)
}

// P10.3: asking turns nothing.
func TestAskingTurnsNothing(t *testing.T) {
	w, s := fewWorld(t, size)
	was := w.shot(s)
	for range 2 {
		s.Pages()
		s.Tables()
		s.Root()
		s.Vmid()
		for _, number := range append([]uint64{0, 1, 5, 1 << 18, highest}, notPages...) {
			s.Find(number)
			s.Has(number*size, 9)
			s.Read(number*size, 8)
		}
	}
	w.still("P10.3", was, s)
}
