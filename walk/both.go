// Package walk goes down tables: what the layers share that translate addresses, one by the tables alone, another by
// what it remembers of them. See shared/doc/04-page.md, section 'Tables'.
package walk

import (
	"citadel/api"
	"citadel/ram"
)

// What satp says by its highest four bits.
const (
	modeFrom   = 60
	modeNone   = 0
	modeTables = 8
)

// Ask is how a second stage is asked for a guest-physical address: the physical one, or the fault.
type Ask func(gpa uint64, access int) (pa uint64, fault int)

// Second is the second stage by the tables from the page root on.
func Second(m *ram.RAM, root, gpa uint64, access int) (pa uint64, perm, fault int) {
	s := newSecond(m, root, gpa)
	if fault := s.find(access); fault != api.FaultNone {
		return 0, 0, fault
	}
	return s.place(), s.leaf.perm(), api.FaultNone
}

// Both is both stages. The second one is asked once for each entry of the first, in their order, and then for the
// address itself; Root is left to whoever answers.
func Both(m *ram.RAM, e api.Env, va uint64, access int, ask Ask) api.Place {
	switch e.Satp >> modeFrom {
	case modeNone:
		return placeOf(va, access, ask)
	case modeTables:
		return throughTables(m, e, va, access, ask)
	}
	return api.Place{Fault: api.FaultPage}
}

// throughTables is where a virtual address comes to by tables of the guest's own.
func throughTables(m *ram.RAM, e api.Env, va uint64, access int, ask Ask) api.Place {
	s := newFirst(m, e, va, ask)
	switch fault := s.find(access); fault {
	case api.FaultNone:
		return placeOf(s.place(), access, ask)
	case api.FaultPage:
		return api.Place{Fault: fault}
	default:
		return api.Place{GPA: s.at(), Fault: fault, Walk: true}
	}
}

// placeOf is where a guest-physical address comes to.
func placeOf(gpa uint64, access int, ask Ask) api.Place {
	pa, fault := ask(gpa, access)
	return api.Place{PA: pa, GPA: gpa, Fault: fault}
}
