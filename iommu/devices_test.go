package iommu_test

import (
	"math"
	"testing"

	"citadel/api"
	"citadel/iommu"
	"citadel/ram"
)

// P7.1: a room is from 1 to MaxTLB; any other is refused, and there is no IOMMU.
func TestNewRoom(t *testing.T) {
	m, _ := ram.New(0, 4)
	for room := 1; room <= api.MaxTLB; room++ {
		if u, e := iommu.New(m, room); u == nil || e != api.OK {
			t.Errorf("P7.1: New(%d) = %v, %d", room, u, e)
		}
	}
	for _, room := range []int{0, -1, -api.MaxTLB, math.MinInt, api.MaxTLB + 1, 2 * api.MaxTLB, 1 << 32, 1<<32 + 1, math.MaxInt} {
		if u, e := iommu.New(m, room); u != nil || e != api.ErrArg {
			t.Errorf("P7.1: New(%d) = %v, %d", room, u, e)
		}
	}
}

// P7.1: a new one has no tables, no ring, no messages, no entries, and no flag; making it turns no memory.
func TestNewIsEmpty(t *testing.T) {
	m, _ := ram.New(size, 4)
	m.Fill(size, []byte{1, 2, 3})
	was, _ := m.Bytes(size, 4*size)
	u, e := iommu.New(m, 3)
	if e != api.OK {
		t.Fatal(e)
	}
	w := world{t, m, u}
	w.untouched("P7.1", was)
	w.has("P7.1")
	w.silent("P7.1", false)
	for dev := range api.MaxDevs {
		if w.Root(dev) != 0 {
			t.Errorf("P7.1: Root(%d) = %d", dev, w.Root(dev))
		}
		for i := range uint64(32) {
			if to, ok := w.Message(dev, api.MsiBase, i); ok || to != (api.Msi{}) {
				t.Errorf("P7.1: Message(%d, %d) = %v, %v", dev, i, to, ok)
			}
		}
		w.stops("P7.1", dev, size, 8, false)
	}
	w.silent("P7.1", true)
	w.has("P7.1")
	w.untouched("P7.1", was)
}

// P7.1, P5.1: the TLB has the room that was asked for, up to its last entry; what comes then drives the first one out.
func TestNewRoomOfTLB(t *testing.T) {
	for _, room := range []int{1, 2, 5, api.MaxTLB - 1, api.MaxTLB} {
		w := newWorld(t, 0, 8, room)
		var all []api.Trans
		w.ok(w.Set(3, 1))
		for i := range room + 2 {
			w.lead(1, uint64(i)*size, 0, pte(uint64(i%8), full))
			w.comes("P7.1", 3, uint64(i)*size, 1, true, uint64(i%8)*size)
			all = append(all, api.Trans{Vmid: 3, Page: uint64(i), Frame: uint64(i % 8), Perm: rwx})
			w.has("P7.1", all[max(0, i+1-room):]...)
		}
	}
}

// P7.1: Set, Drop and Root of each device; no other one's table turns.
func TestTables(t *testing.T) {
	w := newWorld(t, 0, 4, 1)
	var want [api.MaxDevs]uint64
	holds := func() {
		t.Helper()
		for dev, root := range want {
			if got := w.Root(dev); got != root {
				t.Errorf("P7.1: Root(%d) = %#x, not %#x", dev, got, root)
			}
		}
	}
	for i, root := range []uint64{1, 2, 3, 4, 99, 1 << 44, 1 << 52, 1 << 63, ones} {
		for dev := range api.MaxDevs {
			want[dev] = root - uint64(dev)
			if want[dev] == 0 {
				want[dev] = 77
			}
			w.ok(w.Set(dev, want[dev]))
			holds()
		}
		dev := i % api.MaxDevs
		want[dev] = 0
		w.ok(w.Drop(dev))
		holds()
		w.ok(w.Drop(dev)) // one that has none has none still
		holds()
	}
}

// P7.1: ErrArg of Set, Drop and Remap for what is no device, of Set for a root of 0, of Remap for an index above 31;
// nothing has changed. Root tells 0.
func TestRefused(t *testing.T) {
	w := newWorld(t, 0, 4, 1)
	for dev := range api.MaxDevs {
		w.ok(w.Set(dev, uint64(dev+1)))
		for i := range uint64(32) {
			w.ok(w.Remap(dev, i, api.Msi{Guest: dev + 1, Irq: int(i)}))
		}
	}
	for _, dev := range noDevs {
		w.refused("P7.1: Set", w.Set(dev, 9))
		w.refused("P7.1: Set", w.Set(dev, 0))
		w.refused("P7.1: Drop", w.Drop(dev))
		for _, i := range []uint64{0, 1, 31, 32, ones} {
			w.refused("P7.1: Remap", w.Remap(dev, i, api.Msi{Guest: 99, Irq: 99}))
		}
		if w.Root(dev) != 0 {
			t.Errorf("P7.1: Root(%d) = %d", dev, w.Root(dev))
		}
	}
	for dev := range api.MaxDevs {
		w.refused("P7.1: Set", w.Set(dev, 0))
		for _, i := range []uint64{32, 33, 63, 64, 255, 256, 1 << 31, 1 << 32, 1<<32 + 3, 1 << 63, ones} {
			w.refused("P7.1: Remap", w.Remap(dev, i, api.Msi{Guest: 99, Irq: 99}))
			w.refused("P7.1: Remap", w.Remap(dev, i, api.Msi{}))
		}
	}
	for dev := range api.MaxDevs {
		if w.Root(dev) != uint64(dev+1) {
			t.Errorf("R2: Root(%d) = %d", dev, w.Root(dev))
		}
		for i := range uint64(32) {
			if to, ok := w.Message(dev, api.MsiBase, i); !ok || to != (api.Msi{Guest: dev + 1, Irq: int(i)}) {
				t.Errorf("R2: Message(%d, %d) = %v, %v", dev, i, to, ok)
			}
		}
	}
	w.silent("R2", false)
}

// P7.1: Set and Drop turn neither the TLB nor messages, and write nothing.
func TestTablesTurnNothingElse(t *testing.T) {
	w := plain(t, 0, 4)
	w.ok(w.Remap(1, 3, api.Msi{Guest: 2, Irq: 9}))
	w.comes("P7.2", 1, 5*size, 8, true, 9*size)
	w.comes("P7.2", 1, 6*size, 8, false, 10*size)
	was, held := w.all(), w.Entries()
	for range 2 {
		w.ok(w.Drop(1))
		w.has("P7.1", held...)
		w.ok(w.Set(1, 4))
		w.has("P7.1", held...)
		w.ok(w.Set(2, 1))
		w.has("P7.1", held...)
	}
	w.untouched("P7.1", was)
	if to, ok := w.Message(1, api.MsiBase, 3); !ok || to != (api.Msi{Guest: 2, Irq: 9}) {
		t.Errorf("P7.1: %v, %v", to, ok)
	}
	// By the new table, which is empty, page 5 is nowhere; the entry stays till it is invalidated.
	w.comes("P7.2", 1, 5*size, 8, true, 9*size)
	w.Invalidate(1)
	w.blocks("P7.2", w.place(0), 1, 5*size, 8, true, api.BlockPage)
	w.ok(w.Set(1, 1))
	w.comes("P7.2", 1, 5*size, 8, true, 9*size)
}
