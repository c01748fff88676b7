package page_test

import (
	"citadel/api"
	"citadel/ram"
)

// chapter is the chapter's section 'Tables' read out word by word, bit by bit: what page must answer.
type chapter struct {
	m    *ram.RAM
	seen map[uint64]bool // the physical addresses of the entries that were looked at
}

// bits are an entry, its lowest bit first.
type bits [64]bool

// entry is the entry at a physical address, and whether it lies in the memory.
func (c chapter) entry(pa uint64) (bits, bool) {
	var e bits
	b, ok := c.m.Bytes(pa, 8)
	for i := range e {
		e[i] = ok && b[i/8]>>(i%8)&1 == 1
	}
	if ok {
		c.seen[pa] = true
	}
	return e, ok
}

func (e bits) v() bool { return e[0] }
func (e bits) r() bool { return e[1] }
func (e bits) w() bool { return e[2] }
func (e bits) x() bool { return e[3] }
func (e bits) u() bool { return e[4] }
func (e bits) a() bool { return e[6] }
func (e bits) d() bool { return e[7] }

// number is the page's number.
func (e bits) number() uint64 {
	n := uint64(0)
	for i := 53; i >= 10; i-- {
		n *= 2
		if e[i] {
			n++
		}
	}
	return n
}

func (e bits) wrong() bool {
	for i := 54; i < 64; i++ {
		if e[i] {
			return true
		}
	}
	return !e.v() || e.w() && !e.r()
}

// span is how many pages stand below an entry of a level.
func span(level int) uint64 { return []uint64{1, 512, 512 * 512}[level] }

// walk is a walk: the leaf and the page, or the fault (fault where it is one of the walk's own), and the address of the entry that was looked at last.
func (c chapter) walk(table, addr uint64, own int, entry func(at uint64) (bits, int)) (leaf bits, number, at uint64, fault int) {
	for level := 2; level >= 0; level-- {
		if table > 1<<52-1 {
			return bits{}, 0, 0, api.FaultBus
		}
		at = table*size + addr/size/span(level)%512*8
		e, fault := entry(at)
		switch {
		case fault != api.FaultNone:
			return bits{}, 0, at, fault
		case e.wrong():
			return bits{}, 0, at, own
		case e.r() || e.x():
			if e.number()%span(level) != 0 {
				return bits{}, 0, at, own
			}
			return e, e.number() + addr/size%span(level), at, api.FaultNone
		}
		table = e.number()
	}
	return bits{}, 0, at, own
}

// guest is P4.1.
func (c chapter) guest(root, gpa uint64, access int) (pa uint64, perm, fault int) {
	if root == 0 {
		return gpa, rwx, api.FaultNone
	}
	if gpa >= 1<<39 {
		return 0, 0, api.FaultGuest
	}
	leaf, number, _, fault := c.walk(root, gpa, api.FaultGuest, func(at uint64) (bits, int) {
		e, ok := c.entry(at)
		if !ok {
			return e, api.FaultBus
		}
		return e, api.FaultNone
	})
	if fault != api.FaultNone {
		return 0, 0, fault
	}
	if !leaf.u() || !leaf.a() || !leaf.lets(access, false) {
		return 0, 0, api.FaultGuest
	}
	if leaf.r() {
		perm += api.PteR
	}
	if leaf.w() && leaf.d() {
		perm += api.PteW
	}
	if leaf.x() {
		perm += api.PteX
	}
	return number*size + gpa%size, perm, api.FaultNone
}

// lets is what a leaf allows of the accesses, PteD among it.
func (e bits) lets(access int, mxr bool) bool {
	return access == api.Fetch && e.x() || access == api.Load && (e.r() || mxr && e.x()) || access == api.Store && e.w() && e.d()
}

// translate is P4.2.
func (c chapter) translate(e api.Env, va uint64, access int) api.Place {
	gpa := va
	switch mode := e.Satp / (1 << 60); mode {
	case 0:
	case 8:
		var at uint64
		var fault int
		gpa, at, fault = c.first(e, va, access)
		if fault == api.FaultPage {
			return api.Place{Fault: fault}
		}
		if fault != api.FaultNone {
			return api.Place{GPA: at, Fault: fault, Walk: true}
		}
	default:
		return api.Place{Fault: api.FaultPage}
	}
	pa, _, fault := c.guest(e.Root, gpa, access)
	return api.Place{PA: pa, GPA: gpa, Fault: fault}
}

// first is the first stage: the guest-physical address, or the entry's and the fault.
func (c chapter) first(e api.Env, va uint64, access int) (gpa, at uint64, fault int) {
	for i := 39; i < 64; i++ {
		if va>>i&1 != va>>38&1 {
			return 0, 0, api.FaultPage
		}
	}
	leaf, number, at, fault := c.walk(e.Satp%(1<<44), va%(1<<39), api.FaultPage, func(at uint64) (bits, int) {
		pa, _, fault := c.guest(e.Root, at, api.Load)
		if fault != api.FaultNone {
			return bits{}, fault
		}
		b, ok := c.entry(pa)
		if !ok {
			return b, api.FaultBus
		}
		return b, api.FaultNone
	})
	if fault != api.FaultNone {
		return 0, at, fault
	}
	ofUser := leaf.u() == e.User || !e.User && access != api.Fetch && e.Sum
	if !ofUser || !leaf.a() || !leaf.lets(access, e.Mxr) {
		return 0, 0, api.FaultPage
	}
	return number*size + va%size, 0, api.FaultNone
}
