package stage

import "citadel/api"

// Vmids are the VMIDs that are taken.
type Vmids struct {
	taken [api.MaxVmid + 1]bool // by the VMID; that of 0, which is none, stays false
}

// NewVmids has none taken.
func NewVmids() *Vmids { return &Vmids{} }

// Take takes a VMID.
func (v *Vmids) Take() (int, api.Errno) {
	for id := 1; id <= api.MaxVmid; id++ {
		if !v.taken[id] {
			v.taken[id] = true
			return id, api.OK
		}
	}
	return 0, api.ErrVmid
}

// Give gives a VMID back.
func (v *Vmids) Give(id int) api.Errno {
	if !isVmid(id) || !v.taken[id] {
		return api.ErrArg
	}
	v.taken[id] = false
	return api.OK
}

// isVmid tells whether there is such a VMID.
func isVmid(id int) bool { return id >= 1 && id <= api.MaxVmid }
