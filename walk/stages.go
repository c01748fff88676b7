package walk

import (
	"citadel/api"
	"citadel/ram"
)

// addressBits is how many bits of an address a walk goes by, those within a page included.
const addressBits = 39

// second is the second stage of one guest-physical address.
type second struct {
	walk
}

func newSecond(m *ram.RAM, root, gpa uint64) second {
	return second{walk{m: m, addr: gpa, table: root, wrong: api.FaultGuest}}
}

// find walks to the leaf, and tells what is at fault first.
func (s *second) find(access int) int {
	if s.addr>>addressBits != 0 {
		return s.wrong
	}
	if fault := s.down(s.load); fault != api.FaultNone {
		return fault
	}
	if !s.allows(access) {
		return s.wrong
	}
	return api.FaultNone
}

// allows tells whether the leaf allows the access.
func (s *second) allows(access int) bool {
	if !s.leaf.has(api.PteU | api.PteA) {
		return false
	}
	switch access {
	case api.Fetch:
		return s.leaf.has(api.PteX)
	case api.Load:
		return s.leaf.has(api.PteR)
	case api.Store:
		return s.leaf.has(api.PteW | api.PteD)
	}
	return false
}

// first is the first stage of one virtual address.
type first struct {
	walk
	env api.Env
	ask Ask
}

func newFirst(m *ram.RAM, e api.Env, va uint64, ask Ask) first {
	return first{walk{m: m, addr: va, table: e.Satp % (1 << numberBits), wrong: api.FaultPage}, e, ask}
}

// find walks to the leaf, and tells what is at fault first.
func (s *first) find(access int) int {
	if !isExtended(s.addr) {
		return s.wrong
	}
	if fault := s.down(s.loadGuest); fault != api.FaultNone {
		return fault
	}
	if !s.leaf.has(api.PteA) || !s.belongs(access) || !s.allows(access) {
		return s.wrong
	}
	return api.FaultNone
}

// loadGuest reads an entry at a guest-physical address. The second stage is asked for a Load, whatever the access is
// that the walk is for: nothing is stored into an entry, or fetched from it.
func (s *first) loadGuest(gpa uint64) (entry, int) {
	pa, fault := s.ask(gpa, api.Load)
	if fault != api.FaultNone {
		return 0, fault
	}
	return s.load(pa)
}

// belongs tells whether the leaf's page is one of who asks for it.
func (s *first) belongs(access int) bool {
	if s.env.User {
		return s.leaf.has(api.PteU)
	}
	return !s.leaf.has(api.PteU) || s.env.Sum && access != api.Fetch
}

// allows tells whether the leaf allows the access.
func (s *first) allows(access int) bool {
	switch access {
	case api.Fetch:
		return s.leaf.has(api.PteX)
	case api.Load:
		return s.leaf.has(api.PteR) || s.env.Mxr && s.leaf.has(api.PteX)
	case api.Store:
		return s.leaf.has(api.PteW | api.PteD)
	}
	return false
}

// isExtended tells whether the bits above those that a walk goes by are all as the highest of them.
func isExtended(va uint64) bool {
	above := int64(va) >> (addressBits - 1)
	return above == 0 || above == -1
}
