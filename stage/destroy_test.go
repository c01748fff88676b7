package stage_test

import (
	"bytes"
	"slices"
	"testing"

	"citadel/api"
	"citadel/page"
)

// P10.3: Destroy: the root's entries are 0, its tables are in limbo, and told in their order; nothing else is turned, the pages' frames neither.
func TestDestroy(t *testing.T) {
	for _, base := range bases {
		w := newWorld(t, base, 20, 3)
		w.p.Take(1)
		s := w.space(1)
		w.p.Take(2)
		for _, x := range few {
			w.maps(s, x)
			w.p.Take(3)
		}
		w.p.Take(api.Monitor) // the monitor's, but no table
		want, root := s.Tables(), s.Root()
		was := w.shot()
		told := s.Destroy()
		if !slices.Equal(told, want) || told[0] != 4 || len(told) != 8 {
			t.Fatalf("P10.3: Destroy tells %v, not %v", told, want)
		}
		if got := w.all()[4*size : 5*size]; !bytes.Equal(got, make([]byte, size)) {
			t.Error("P10.3: not all entries of the root are 0")
		}
		clear(was.bytes[4*size : 5*size])
		for _, f := range told {
			was.owners[f], was.waits[f] = api.Limbo, 1<<63|3
		}
		w.still("P10.3", was)
		for _, x := range few {
			for _, access := range accesses {
				if _, _, fault := page.Guest(w.m, root, x.Page*size, access); fault != api.FaultGuest {
					t.Errorf("P10.3: page %#x is mapped still", x.Page)
				}
			}
		}
	}
}

// P10.3: a space without pages is its root alone.
func TestDestroyEmpty(t *testing.T) {
	w := newWorld(t, 0, 4, 1)
	s := w.space(2)
	was := w.shot()
	if told := s.Destroy(); !slices.Equal(told, []int{1}) {
		t.Errorf("P10.3: Destroy tells %v", told)
	}
	was.owners[1], was.waits[1] = api.Limbo, 1<<63|3
	w.still("P10.3", was)
}

// P10.3, P9.3: behind all acknowledgements the tables are free and 0, and another space has them.
func TestTablesGoRound(t *testing.T) {
	w, s := fewWorld(t, size)
	was := w.all()
	s.Destroy()
	for hart := range 2 {
		w.p.Ack(hart)
	}
	if n := w.p.AckDevices(); n != 8 {
		t.Errorf("P10.3: %d frames are free by the last acknowledgement", n)
	}
	clear(was[3*size : 11*size])
	if !bytes.Equal(w.all(), was) {
		t.Error("P10.3: the tables are not cleared, or something else is")
	}
	next := w.space(2)
	w.tells(next)
	w.maps(next, few[2])
	w.has(next, 3, 4, 5)
	w.tells(next, few[2])
}

// P10.3: the spaces beside one that is destroyed stay as they are.
func TestDestroyBeside(t *testing.T) {
	w := newWorld(t, api.RamBase, 30, 2)
	a, b, c := w.space(1), w.space(2), w.space(3)
	for i, x := range []api.Page{{Page: 5, Frame: 0, Perm: rw}, {Page: 1 << 18, Frame: 1, Perm: rx}} {
		w.maps(a, x)
		w.maps(b, api.Page{Page: x.Page, Frame: 1 - i, Perm: rwx})
		w.maps(c, api.Page{Page: x.Page + 1, Frame: i, Perm: api.PteX})
	}
	pages, tables := [][]api.Page{a.Pages(), c.Pages()}, [][]int{a.Tables(), c.Tables()}
	b.Destroy()
	w.tells(a, pages[0]...)
	w.tells(c, pages[1]...)
	w.has(a, tables[0]...)
	w.has(c, tables[1]...)
}

// R3: what Destroy tells is new memory: no list that was told before, and none that is told later.
func TestDestroyTellsNew(t *testing.T) {
	w, s := fewWorld(t, 0)
	ahead := s.Tables()
	told := s.Destroy()
	told[0] = -7
	if slices.Contains(ahead[:cap(ahead)], -7) {
		t.Error("R3: Destroy tells a list that was told before")
	}
	if w.p.Owner(3) != api.Limbo {
		t.Errorf("P10.3: the root has %d", w.p.Owner(3))
	}
}
