package walk

import "citadel/api"

const (
	// numberBits is how many bits of an entry are a page's number.
	numberBits = 44
	// numberFrom is the first of them; those behind the last must be 0.
	numberFrom = 10
)

// entry is an entry of a table; its fields are its methods.
type entry uint64

// has tells whether all of these bits are 1.
func (e entry) has(bits entry) bool { return e&bits == bits }

// isWrong tells whether it is no entry at all.
func (e entry) isWrong() bool {
	return !e.has(api.PteV) || e.has(api.PteW) && !e.has(api.PteR) || e>>(numberFrom+numberBits) != 0
}

// number tells, of an entry that is not wrong, the page that it names.
func (e entry) number() uint64 { return uint64(e) >> numberFrom }

// isLeaf tells, of an entry that is not wrong, whether it ends a walk.
func (e entry) isLeaf() bool { return e&(api.PteR|api.PteX) != 0 }

// perm is what a leaf of the second stage allows. PteW without PteD is left out, so that whoever remembers perm
// asks the tables again for a Store.
func (e entry) perm() int {
	if e.has(api.PteD) {
		return int(e & (api.PteR | api.PteW | api.PteX))
	}
	return int(e & (api.PteR | api.PteX))
}
