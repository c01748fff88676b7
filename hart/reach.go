package hart

import (
	"citadel/api"
	"citadel/page"
	"citadel/walk"
)

// reach is where an address comes to, for an access to so many bytes there; false: the step has ended.
func (s *step) reach(addr uint64, access, size int) (api.Place, bool) {
	p := walk.Both(s.core.m, s.env(), addr, access, s.core.second)
	if p.Fault == api.FaultPage {
		s.trap(pageCause(access), addr)
		return api.Place{}, false
	}
	if p.Fault != api.FaultNone || !s.core.m.Has(p.PA, size) {
		s.end(s.was, api.Event{Kind: api.ExitFault, Access: access, VA: addr, GPA: p.GPA, Walk: p.Walk})
		return api.Place{}, false
	}
	return p, true
}

// env is by what the hart's addresses are translated.
func (s *step) env() api.Env {
	return api.Env{Satp: s.was.Satp, Root: s.core.root, User: s.was.User, Sum: s.was.Sum, Mxr: s.was.Mxr}
}

// second is the second stage: the TLB is asked ahead of the tables, and learns what these say.
func (c *Core) second(gpa uint64, access int) (uint64, int) {
	if c.root == 0 {
		return gpa, api.FaultNone
	}
	number := gpa / api.PageSize
	if e, ok := c.t.Look(c.vmid, number); ok && e.Perm&right(access) != 0 {
		return e.Frame*api.PageSize + gpa%api.PageSize, api.FaultNone
	}
	pa, perm, fault := page.Guest(c.m, c.root, gpa, access)
	if fault == api.FaultNone {
		c.t.Put(api.Trans{Vmid: c.vmid, Page: number, Frame: pa / api.PageSize, Perm: perm})
	}
	return pa, fault
}

// right is the bit of an entry's Perm that allows an access.
func right(access int) int {
	switch access {
	case api.Fetch:
		return api.PteX
	case api.Load:
		return api.PteR
	}
	return api.PteW
}

// pageCause is the cause of a trap where the guest's own tables refuse an access.
func pageCause(access int) uint64 {
	switch access {
	case api.Fetch:
		return causePageFetch
	case api.Load:
		return causePageLoad
	}
	return causePageStore
}
