package iommu

import "citadel/api"

const (
	// recordSize is how many bytes a record has: those of Dev, of Kind and of Addr.
	recordSize = 16
	kindFrom   = 4
	addrFrom   = 8
	// mostUntold is how many records may wait to be told: one place of the ring always stays free.
	mostUntold = api.RingSize - 1
)

// ring is a page of records, of which those that were not told stand one behind the other.
type ring struct {
	there bool // a ring may be the page at 0
	addr  uint64
	first int // the place of the first record that was not told
	count int // how many were not told
}

// at is the address of the record so many behind the first one that was not told.
func (r ring) at(behind int) uint64 {
	return r.addr + uint64((r.first+behind)%api.RingSize)*recordSize
}

// Ring says where records go.
func (u *IOMMU) Ring(addr uint64) api.Errno {
	if addr%api.PageSize != 0 || !u.m.Has(addr, api.PageSize) {
		return api.ErrArg
	}
	u.ring = ring{there: true, addr: addr}
	return api.OK
}

// record writes a record behind the last one, or sets the flag where it has no place.
func (u *IOMMU) record(r api.Record) {
	if !u.ring.there || u.ring.count >= mostUntold {
		u.lost = true
		return
	}
	at := u.ring.at(u.ring.count)
	u.m.Write(at, 4, uint64(r.Dev))
	u.m.Write(at+kindFrom, 4, uint64(r.Kind))
	u.m.Write(at+addrFrom, 8, r.Addr)
	u.ring.count++
}

// Next tells the next record.
func (u *IOMMU) Next() (api.Record, bool) {
	if u.ring.count == 0 {
		return api.Record{}, false
	}
	at := u.ring.at(0)
	dev, _ := u.m.Read(at, 4)
	kind, _ := u.m.Read(at+kindFrom, 4)
	addr, _ := u.m.Read(at+addrFrom, 8)
	u.ring.first = (u.ring.first + 1) % api.RingSize
	u.ring.count--
	return api.Record{Dev: int(dev), Kind: int(kind), Addr: addr}, true
}

// Overflow tells whether records were lost.
func (u *IOMMU) Overflow() bool { return u.lost }

// Clear takes the flag away.
func (u *IOMMU) Clear() { u.lost = false }
