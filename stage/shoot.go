package stage

import (
	"sync/atomic"

	"citadel/api"
	"citadel/tlb"
)

// Shoot is who is due to forget what: for each hart a number, whose bit of a VMID is 1 if it is due that one.
type Shoot struct {
	due []atomic.Uint64
}

// NewShoot has nothing due.
func NewShoot(harts int) (*Shoot, api.Errno) {
	if harts < 1 || harts > api.MaxHarts {
		return nil, api.ErrArg
	}
	return &Shoot{due: make([]atomic.Uint64, harts)}, api.OK
}

// Post makes all harts due.
func (s *Shoot) Post(vmid int) {
	if !isVmid(vmid) {
		return
	}
	for hart := range s.due {
		s.due[hart].Or(1 << vmid)
	}
}

// Due tells what a hart is due.
func (s *Shoot) Due(hart int) []int {
	if !s.has(hart) {
		return nil
	}
	return vmidsOf(s.due[hart].Load())
}

// Serve does what a hart is due. The bits are taken away ahead of the flush, so that what is posted meanwhile stays due.
func (s *Shoot) Serve(hart int, t *tlb.TLB) int {
	if !s.has(hart) {
		return 0
	}
	list := vmidsOf(s.due[hart].Swap(0))
	for _, id := range list {
		t.Flush(id)
	}
	return len(list)
}

// Idle tells whether nothing is due.
func (s *Shoot) Idle() bool {
	for hart := range s.due {
		if s.due[hart].Load() != 0 {
			return false
		}
	}
	return true
}

// has tells whether there is such a hart.
func (s *Shoot) has(hart int) bool { return hart >= 0 && hart < len(s.due) }

// vmidsOf are the VMIDs of these bits, rising.
func vmidsOf(bits uint64) []int {
	var list []int
	for id := 1; id <= api.MaxVmid; id++ {
		if bits>>id&1 == 1 {
			list = append(list, id)
		}
	}
	return list
}
