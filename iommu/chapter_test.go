package iommu_test

import (
	"slices"

	"citadel/api"
	"citadel/page"
	"citadel/ram"
)

// kinds of what is done to an IOMMU, or to its memory.
const (
	access = iota
	message
	next
	clearFlag
	ring
	set
	drop
	remap
	invalidate
	invalidatePage
	evict
	write
	kinds
)

// deed is something that is done; each kind has the fields that its call has. Of a write n is what is written.
type deed struct {
	kind, dev, size, i int
	addr, n            uint64
	write              bool
	to                 api.Msi
}

// answer is what a deed answers; each kind fills the fields that its call has.
type answer struct {
	place uint64
	to    api.Msi
	rec   api.Record
	ok    bool
	err   api.Errno
}

// do does a deed.
func (w world) do(d deed) (a answer) {
	switch d.kind {
	case access:
		a.place, a.ok = w.Access(d.dev, d.addr, d.size, d.write)
	case message:
		a.to, a.ok = w.Message(d.dev, d.addr, d.n)
	case next:
		a.rec, a.ok = w.Next()
	case clearFlag:
		w.Clear()
	case ring:
		a.err = w.Ring(d.addr)
	case set:
		a.err = w.Set(d.dev, d.n)
	case drop:
		a.err = w.Drop(d.dev)
	case remap:
		a.err = w.Remap(d.dev, d.n, d.to)
	case invalidate:
		w.Invalidate(d.dev)
	case invalidatePage:
		w.InvalidatePage(d.dev, d.n)
	case evict:
		a.ok = w.Evict(d.i)
	case write:
		w.m.Write(d.addr, 8, d.n)
	}
	return a
}

// chapter is the chapter read out word by word, over a memory of its own: what an IOMMU must answer, and hold.
type chapter struct {
	m        *ram.RAM
	room     int
	roots    map[int]uint64
	messages map[int]map[uint64]api.Msi
	entries  []api.Trans
	ring     []uint64 // the places of the ring, that where the next record goes first
	waits    []uint64 // where the records stand that were not told
	flag     bool
}

func newChapter(m *ram.RAM, room int) *chapter {
	return &chapter{m: m.Copy(), room: room, roots: map[int]uint64{}, messages: map[int]map[uint64]api.Msi{}}
}

// isDev: devices have the numbers 0 to MaxDevs - 1.
func isDev(dev int) bool { return 0 <= dev && dev <= api.MaxDevs-1 }

// do does a deed.
func (c *chapter) do(d deed) (a answer) {
	switch d.kind {
	case access:
		a.place, a.ok = c.access(d)
	case message:
		to, ok := c.messages[d.dev][d.n]
		if ok && d.addr == api.MsiBase {
			return answer{to: to, ok: true}
		}
		c.block(d, api.BlockMsi)
	case next:
		a.rec, a.ok = c.next()
	case clearFlag:
		c.flag = false
	case ring:
		a.err = c.setRing(d.addr)
	case set, drop, remap:
		a.err = c.tell(d)
	case invalidate:
		c.leave(func(e api.Trans) bool { return e.Vmid == d.dev })
	case invalidatePage:
		c.leave(func(e api.Trans) bool { return e.Vmid == d.dev && e.Page == d.n })
	case evict:
		if d.i >= 0 && d.i < len(c.entries) {
			gone := c.entries[d.i]
			c.leave(func(e api.Trans) bool { return e == gone })
			a.ok = true
		}
	case write:
		c.m.Write(d.addr, 8, d.n)
	}
	return a
}

// leave lets entries go.
func (c *chapter) leave(gone func(api.Trans) bool) {
	c.entries = slices.DeleteFunc(slices.Clone(c.entries), gone)
}

// tell is P7.1.
func (c *chapter) tell(d deed) api.Errno {
	if !isDev(d.dev) || d.kind == set && d.n == 0 || d.kind == remap && d.n > 31 {
		return api.ErrArg
	}
	switch d.kind {
	case set:
		c.roots[d.dev] = d.n
	case drop:
		delete(c.roots, d.dev)
	case remap:
		if c.messages[d.dev] == nil {
			c.messages[d.dev] = map[uint64]api.Msi{}
		}
		c.messages[d.dev][d.n] = d.to
		if d.to.Guest == 0 {
			delete(c.messages[d.dev], d.n)
		}
	}
	return api.OK
}

// access is P7.2.
func (c *chapter) access(d deed) (uint64, bool) {
	if !isDev(d.dev) {
		return 0, false
	}
	kind, place := c.find(d)
	if kind != 0 {
		c.block(d, kind)
		return 0, false
	}
	return place, true
}

// find is the first kind that holds (0: none), or the place.
func (c *chapter) find(d deed) (kind int, place uint64) {
	if !slices.Contains([]int{1, 2, 4, 8}, d.size) || d.addr&uint64(d.size-1) != 0 {
		return api.BlockSize, 0
	}
	root, has := c.roots[d.dev]
	if !has {
		return api.BlockNone, 0
	}
	asks, bit := api.Load, api.PteR
	if d.write {
		asks, bit = api.Store, api.PteW
	}
	number := d.addr >> 12
	i := slices.IndexFunc(c.entries, func(e api.Trans) bool { return e.Vmid == d.dev && e.Page == number && e.Perm&bit == bit })
	if i >= 0 {
		place = c.entries[i].Frame<<12 | d.addr&4095
	} else {
		pa, perm, fault := page.Guest(c.m, root, d.addr, asks)
		if fault == api.FaultGuest || fault == api.FaultBus {
			return api.BlockPage, 0
		}
		place = pa
		c.put(api.Trans{Vmid: d.dev, Page: number, Frame: pa >> 12, Perm: perm})
	}
	if !c.m.Has(place, d.size) {
		return api.BlockBus, 0
	}
	return 0, place
}

// put is P5.1's.
func (c *chapter) put(e api.Trans) {
	c.leave(func(f api.Trans) bool { return f.Vmid == e.Vmid && f.Page == e.Page })
	if len(c.entries) == c.room {
		c.entries = c.entries[1:]
	}
	c.entries = append(c.entries, e)
}

// setRing is P7.4's.
func (c *chapter) setRing(addr uint64) api.Errno {
	if addr&4095 != 0 || !c.m.Has(addr, 4096) {
		return api.ErrArg
	}
	c.ring, c.waits = nil, nil
	for at := addr; at < addr+4096; at += 16 {
		c.ring = append(c.ring, at)
	}
	return api.OK
}

// block writes the record of what is blocked, or sets the flag.
func (c *chapter) block(d deed, kind int) {
	if !isDev(d.dev) {
		return
	}
	if c.ring == nil || len(c.waits) >= 255 {
		c.flag = true
		return
	}
	at := c.ring[0]
	c.ring = append(c.ring[1:], at)
	c.waits = append(c.waits, at)
	c.m.Fill(at, wire(api.Record{Dev: d.dev, Kind: kind, Addr: d.addr}))
}

// next tells the first record that was not told.
func (c *chapter) next() (api.Record, bool) {
	if len(c.waits) == 0 {
		return api.Record{}, false
	}
	b, _ := c.m.Bytes(c.waits[0], 16)
	c.waits = c.waits[1:]
	var v [4]uint64
	for i := range v {
		for k := 3; k >= 0; k-- {
			v[i] = v[i]*256 + uint64(b[4*i+k])
		}
	}
	return api.Record{Dev: int(v[0]), Kind: int(v[1]), Addr: v[3]<<32 + v[2]}, true
}
