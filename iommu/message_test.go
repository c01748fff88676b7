package iommu_test

import (
	"math"
	"testing"

	"citadel/api"
)

// noBases are addresses that are not MsiBase.
var noBases = []uint64{0, 1, api.MsiBase - 1, api.MsiBase + 1, api.MsiBase + 4, api.MsiBase - 8, api.MsiBase | 1<<32, api.MsiBase | 1<<63, 0xfee00000 >> 12, 0x80000000, ones, ones - 7}

// noIndexes are data that are no index.
var noIndexes = []uint64{32, 33, 35, 63, 64, 255, 256, 1<<8 | 3, 1<<16 | 3, 1 << 32, 1<<32 | 3, 1<<40 | 3, 1 << 63, 1<<63 | 3, ones}

// sends fails if a message does not go to a place, or leaves anything behind.
func (w world) sends(dev int, data uint64, want api.Msi) {
	w.t.Helper()
	was, lost := w.all(), w.Overflow()
	if to, ok := w.Message(dev, api.MsiBase, data); !ok || to != want {
		w.t.Errorf("P7.3: Message(%d, %d) = %v, %v, not %v", dev, data, to, ok, want)
	}
	w.untouched("P7.3", was)
	w.silent("P7.3", lost)
}

// drops fails if a message is not blocked, or the record at a place is not all that is written.
func (w world) drops(place uint64, dev int, addr, data uint64) {
	w.t.Helper()
	was, lost, held := w.all(), w.Overflow(), w.Entries()
	if to, ok := w.Message(dev, addr, data); ok || to != (api.Msi{}) {
		w.t.Errorf("P7.3: Message(%d, %#x, %#x) = %v, %v", dev, addr, data, to, ok)
	}
	w.recorded("P7.3", was, place, api.Record{Dev: dev, Kind: api.BlockMsi, Addr: addr})
	w.silent("P7.3", lost)
	w.has("P7.3", held...)
}

// P7.3: the chapter's example.
func TestMessageExample(t *testing.T) {
	w := plain(t, 0, 4)
	w.drops(w.place(0), 1, api.MsiBase, 3)
	w.ok(w.Remap(1, 3, api.Msi{Guest: 2, Irq: 9}))
	w.sends(1, 3, api.Msi{Guest: 2, Irq: 9})
}

// P7.3: each index of each device goes where it was said to, with a table or without; all others stay as they were.
func TestMessages(t *testing.T) {
	w := plain(t, api.RamBase, 4)
	n := 0
	drops := func(dev int, addr, data uint64) {
		t.Helper()
		w.drops(w.place(n), dev, addr, data)
		n++
	}
	for dev := range api.MaxDevs {
		for i := range uint64(32) {
			drops(dev, api.MsiBase, i)
			to := api.Msi{Guest: dev*100 + int(i) + 1, Irq: int(i) - 5}
			w.ok(w.Remap(dev, i, to))
			w.sends(dev, i, to)
		}
	}
	for dev := range api.MaxDevs {
		for i := range uint64(32) {
			w.sends(dev, i, api.Msi{Guest: dev*100 + int(i) + 1, Irq: int(i) - 5})
		}
		for _, i := range noIndexes {
			drops(dev, api.MsiBase, i)
		}
		for _, addr := range noBases {
			drops(dev, addr, 3)
		}
	}
}

// P7.3, R5: any guest and any interrupt are taken, but the guest 0, which is nowhere; the last Remap counts.
func TestRemap(t *testing.T) {
	w := plain(t, 0, 4)
	n := 0
	for _, i := range []uint64{0, 1, 31} {
		for _, guest := range []int{1, 2, api.MaxGuests, api.MaxGuests + 1, -1, 1 << 32, math.MinInt, math.MaxInt} {
			for _, irq := range []int{0, 1, 9, -1, math.MinInt, math.MaxInt} {
				w.ok(w.Remap(7, i, api.Msi{Guest: guest, Irq: irq}))
				w.sends(7, i, api.Msi{Guest: guest, Irq: irq})
			}
		}
		for _, irq := range []int{0, 1, 9, -1, math.MaxInt} {
			w.ok(w.Remap(7, i, api.Msi{Irq: irq}))
			w.drops(w.place(n), 7, api.MsiBase, i)
			w.ok(w.Remap(7, i, api.Msi{Guest: 1}))
			w.sends(7, i, api.Msi{Guest: 1})
			n++
		}
	}
}

// P7.2, P7.3: a message of no device is blocked without a record and without the flag, with a ring, a full one, or none.
func TestMessageOfNoDevice(t *testing.T) {
	w := plain(t, 0, 4)
	for dev := range api.MaxDevs {
		for i := range uint64(32) {
			w.ok(w.Remap(dev, i, api.Msi{Guest: 3, Irq: 4}))
		}
	}
	none := newWorld(t, 0, 4, 1)
	filled := plain(t, 0, 4)
	for range api.RingSize - 1 {
		filled.Message(0, 0, 0)
	}
	filled.flag("P7.4", false)
	for _, dev := range noDevs {
		for _, x := range []world{w, none, filled} {
			for _, addr := range append([]uint64{api.MsiBase}, noBases...) {
				for _, data := range []uint64{0, 3, 31, 32, ones} {
					was := x.all()
					if to, ok := x.Message(dev, addr, data); ok || to != (api.Msi{}) {
						t.Errorf("P7.3: Message(%d, %#x, %d) = %v, %v", dev, addr, data, to, ok)
					}
					x.untouched("P7.3", was)
					x.flag("P7.2", false)
				}
			}
		}
	}
	w.silent("P7.2", false)
	none.silent("P7.2", false)
}

// P7.4: without a ring a blocked message sets the flag alone.
func TestMessageWithoutRing(t *testing.T) {
	w := newWorld(t, 0, 4, 1)
	was := w.all()
	w.Message(0, api.MsiBase, 0)
	w.silent("P7.4", true)
	w.Clear()
	w.Message(7, 5, 0)
	w.silent("P7.4", true)
	w.untouched("P7.4", was)
}
