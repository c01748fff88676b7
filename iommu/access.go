package iommu

import (
	"cmp"

	"citadel/api"
	"citadel/page"
)

// access is an access of a device that there is.
type access struct {
	dev   int
	addr  uint64
	size  int
	write bool
	place uint64 // the physical address, once it is found
}

// Access translates a device's access. What blocks it first tells the kind; the cases that it falls through on its way
// to the record leave that as it is.
func (u *IOMMU) Access(dev int, addr uint64, size int, write bool) (uint64, bool) {
	if !isDevice(dev) {
		return 0, false
	}
	a := access{dev: dev, addr: addr, size: size, write: write}
	r := api.Record{Dev: dev, Addr: addr}
	switch {
	case !a.isWhole():
		r.Kind = api.BlockSize
		fallthrough
	case u.roots[dev] == 0:
		r.Kind = cmp.Or(r.Kind, api.BlockNone)
		fallthrough
	case !u.find(&a):
		r.Kind = cmp.Or(r.Kind, api.BlockPage)
		fallthrough
	case !u.m.Has(a.place, a.size):
		r.Kind = cmp.Or(r.Kind, api.BlockBus)
		u.record(r)
		return 0, false
	}
	return a.place, true
}

// isWhole tells whether its size is one of those that there are, and its address a multiple of that.
func (a *access) isWhole() bool {
	switch a.size {
	case 1, 2, 4, 8:
		return a.addr%uint64(a.size) == 0
	}
	return false
}

// find finds an access's place: the TLB is asked ahead of the device's table, and learns what this says.
func (u *IOMMU) find(a *access) bool {
	number := a.addr / api.PageSize
	kind, right := a.asks()
	e, ok := u.Look(a.dev, number)
	if !ok || e.Perm&right == 0 {
		pa, perm, fault := page.Guest(u.m, u.roots[a.dev], a.addr, kind)
		if fault != api.FaultNone {
			return false
		}
		e = api.Trans{Vmid: a.dev, Page: number, Frame: pa / api.PageSize, Perm: perm}
		u.Put(e)
	}
	a.place = e.Frame*api.PageSize + a.addr%api.PageSize
	return true
}

// asks is what an access asks of a table, and the bit of an entry's Perm that allows it.
func (a *access) asks() (kind, right int) {
	if a.write {
		return api.Store, api.PteW
	}
	return api.Load, api.PteR
}
