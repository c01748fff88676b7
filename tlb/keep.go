package tlb

import "citadel/api"

// isOf tells whether an entry is that of a VMID's page.
func isOf(e api.Trans, vmid int, page uint64) bool {
	return e.Vmid == vmid && e.Page == page
}

// leave leaves the entries that lets lets.
func (t *TLB) leave(lets func(api.Trans) bool) {
	t.entries = keep(t.entries, lets)
}

// keep is what lets lets of a list, in its order. The list's own memory is taken for it, and nothing of the rest stays there.
func keep[E any](list []E, lets func(E) bool) []E {
	kept := list[:0]
	for _, e := range list {
		if lets(e) {
			kept = append(kept, e)
		}
	}
	clear(list[len(kept):])
	return kept
}
