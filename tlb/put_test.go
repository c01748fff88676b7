package tlb_test

import (
	"math"
	"slices"
	"testing"

	"citadel/api"
	"citadel/tlb"
)

// P5.1: the chapter's example.
func TestExample(t *testing.T) {
	a := api.Trans{Vmid: 1, Page: 5, Frame: 9, Perm: api.PteR}
	b := api.Trans{Vmid: 2, Page: 5, Frame: 8, Perm: api.PteR}
	c := api.Trans{Vmid: 1, Page: 6, Frame: 7, Perm: api.PteX}
	w := newWorld(t, 2)
	w.Put(a)
	w.Put(b)
	w.Put(c)
	w.has("P5.1", b, c)
	w.misses("P5.1", 1, 5)
	w.Flush(1)
	w.has("P5.2", b)
}

// P5.1: a room is from 1 to MaxTLB; any other is refused, and there is no TLB.
func TestNew(t *testing.T) {
	for room := 1; room <= api.MaxTLB; room++ {
		w := newWorld(t, room)
		w.has("P5.1")
		w.misses("P5.1", 0, 0)
	}
	for _, room := range []int{0, -1, -2, -api.MaxTLB, math.MinInt, math.MinInt + 1, api.MaxTLB + 1, api.MaxTLB + 2, 2 * api.MaxTLB, 1 << 32, 1<<32 + 1, math.MaxInt} {
		if x, e := tlb.New(room); x != nil || e != api.ErrArg {
			t.Errorf("P5.1: New(%d) = %v, %d", room, x, e)
		}
	}
}

// P5.1: entries stand in the order in which they were put, up to the room; then the first one goes for each.
func TestPutInOrder(t *testing.T) {
	for _, room := range []int{1, 2, 3, 8, api.MaxTLB - 1, api.MaxTLB} {
		w := newWorld(t, room)
		all := row(3, 3*room)
		for i, e := range all {
			w.Put(e)
			w.has("P5.1", all[max(0, i+1-room):i+1]...)
			w.finds("P5.1", e)
			if i >= room {
				w.misses("P5.1", 3, all[i-room].Page)
			}
		}
	}
}

// P5.1: a page that is put again is the last entry, wherever it stood, and no other one goes for it, in a full TLB either.
func TestPutAgain(t *testing.T) {
	for _, n := range []int{1, 2, 3, 5, api.MaxTLB - 1, api.MaxTLB} {
		for _, room := range []int{n, min(n+1, api.MaxTLB), api.MaxTLB} {
			was := row(2, n)
			for i := range was {
				w := filled(t, room, was...)
				again := api.Trans{Vmid: 2, Page: was[i].Page, Frame: ones - uint64(i), Perm: -1 - i}
				w.Put(again)
				w.has("P5.1", append(without(was, i), again)...)
				w.finds("P5.1", again)
			}
		}
	}
}

// P5.1: the very same entry put again is the last one too.
func TestPutTheSame(t *testing.T) {
	was := row(1, 3)
	w := filled(t, 3, was...)
	w.Put(was[0])
	w.has("P5.1", was[1], was[2], was[0])
	w.Put(was[0])
	w.has("P5.1", was[1], was[2], was[0])
}

// P5.1: behind a page that was put again the first one that is left is the first to go.
func TestPutAgainThenAnother(t *testing.T) {
	was := row(1, 3)
	w := filled(t, 3, was...)
	w.Put(was[0])
	w.Put(entry(1, 9))
	w.has("P5.1", was[2], was[0], entry(1, 9))
	w.Put(entry(1, 8))
	w.has("P5.1", was[0], entry(1, 9), entry(1, 8))
}

// P5.1: only both, Vmid and Page, make an entry the same; its frame and its permission do not count.
func TestPutOfOtherPages(t *testing.T) {
	a := api.Trans{Vmid: 1, Page: 5, Frame: 9, Perm: api.PteR}
	for _, e := range []api.Trans{{Vmid: 2, Page: 5, Frame: 9, Perm: api.PteR}, {Vmid: 1, Page: 6, Frame: 9, Perm: api.PteR}, {Vmid: 5, Page: 1, Frame: 9, Perm: api.PteR}} {
		w := filled(t, 2, a, e)
		w.finds("P5.1", a)
		w.finds("P5.1", e)
		w = filled(t, 1, a)
		w.Put(e)
		w.has("P5.1", e)
		w.misses("P5.1", 1, 5)
	}
	for _, e := range []api.Trans{{Vmid: 1, Page: 5, Frame: 8, Perm: api.PteR}, {Vmid: 1, Page: 5, Frame: 9, Perm: api.PteW}, {Vmid: 1, Page: 5}} {
		w := filled(t, 2, a)
		w.Put(e)
		w.has("P5.1", e)
	}
}

// R5: any number is taken, and told as it was put: a Vmid below 0, a page that no address comes to, any frame and any permission.
func TestAnyNumbers(t *testing.T) {
	for _, vmid := range vmids {
		for _, page := range pages {
			w := newWorld(t, 4)
			w.misses("P5.1", vmid, page)
			e := api.Trans{Vmid: vmid, Page: page, Frame: ^page, Perm: -vmid}
			w.Put(e)
			w.has("R5", e)
			for _, v := range vmids {
				for _, p := range pages {
					if v == vmid && p == page {
						w.finds("R5", e)
					} else {
						w.misses("P5.1", v, p)
					}
				}
			}
		}
	}
}

// P5.1: the zero entry is one like any other, and is told from none.
func TestZeroEntry(t *testing.T) {
	w := newWorld(t, 2)
	w.misses("P5.1", 0, 0)
	w.Put(api.Trans{})
	w.has("P5.1", api.Trans{})
	w.finds("P5.1", api.Trans{})
	w.FlushPage(0, 0)
	w.has("P5.2")
	w.misses("P5.2", 0, 0)
}

// P5.1: Look finds each entry of a full TLB, and turns nothing, found or not.
func TestLookTurnsNothing(t *testing.T) {
	all := row(7, api.MaxTLB)
	w := filled(t, api.MaxTLB, all...)
	for i := range all {
		w.finds("P5.1", all[len(all)-1-i])
		w.misses("P5.1", 6, all[i].Page)
		w.misses("P5.1", 7, all[i].Page+api.MaxTLB)
	}
	w.has("P5.1", all...)
}

// R3: what Entries told stays as it was told, and the TLB is not turned by it, spare room too.
func TestEntriesAreNotShared(t *testing.T) {
	for _, n := range []int{0, 1, 2, 3, 5, 33, api.MaxTLB} {
		for _, room := range []int{max(n, 1), api.MaxTLB} {
			all := row(1, n)
			w := filled(t, room, all...)
			told, other := w.Entries(), w.Entries()
			whole := told[:cap(told)]
			for i := range whole {
				whole[i] = api.Trans{Vmid: 99, Page: 99}
			}
			w.has("R3", all...)
			if !slices.Equal(other, all) {
				t.Errorf("R3: two answers of Entries, of %d, are one", n)
			}
			told = append(w.Entries(), entry(5, 5))
			w.has("R3", all...)
			turnAll(w)
			if !slices.Equal(other, all) || !slices.Equal(told[:n], all) || told[n] != entry(5, 5) {
				t.Errorf("R3: what Entries told, of %d, has turned with the TLB", n)
			}
		}
	}
}

// turnAll does to a TLB all that can be done to it.
func turnAll(w world) {
	for i := range uint64(3) {
		w.Put(entry(1, i))
		w.Put(entry(4, i))
	}
	w.Evict(0)
	w.Evict(1)
	w.FlushPage(1, 2)
	w.Flush(1)
	w.FlushAll()
	for i := range uint64(api.MaxTLB) {
		w.Put(entry(4, i))
	}
}

// R4: two TLBs have nothing in common.
func TestTwo(t *testing.T) {
	all := row(1, 4)
	a, b := filled(t, 4, all...), filled(t, 4, all...)
	c := newWorld(t, 4)
	turnAll(a)
	b.has("R4", all...)
	c.has("R4")
	a.FlushAll()
	c.Put(all[2])
	b.has("R4", all...)
	a.has("R4")
	c.has("R4", all[2])
}
