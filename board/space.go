package board

import (
	"citadel/api"
	"citadel/pci"
	"citadel/virtq"
)

// noSlot is the number of no slot.
const noSlot = -1

// Where a slot has its command, without whose bits nothing is found.
const (
	commandAt   = 0x04
	commandSize = 2
)

// space is configuration space: a page for each slot. The slot whose device is gone answers as no slot does.
type space struct {
	bus  *pci.Bus
	gone int
}

func (s *space) read(off uint64, size int, _ uint64) (uint64, bool) {
	return s.bus.Read(s.slot(off), off%api.PageSize, size)
}

func (s *space) write(_ virtq.Mem, off uint64, size int, v uint64) bool {
	return s.bus.Write(s.slot(off), off%api.PageSize, size, v)
}

// slot is whose page an offset lies in.
func (s *space) slot(off uint64) int {
	slot := int(off / api.PageSize)
	if slot == s.gone {
		return noSlot
	}
	return slot
}

// remove takes the device of a kind away. With its command 0 it is not found, and from then on nobody writes that.
func (s *space) remove(kind int) {
	for slot := range s.bus.Slots() {
		if s.bus.Kind(slot) == kind {
			s.bus.Write(slot, commandAt, commandSize, 0)
			s.gone = slot
		}
	}
}
