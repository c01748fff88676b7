package stage

import "citadel/api"

const (
	// top is the level of the root.
	top = 2
	// levelBits is how many bits of a page's number choose an entry of a table.
	levelBits = 9
	// tableSize is how many entries a table has.
	tableSize = 1 << levelBits
	// allPages is how many pages tables of all levels reach.
	allPages = 1 << (levelBits * (top + 1))
	// entrySize is how many bytes an entry has.
	entrySize = 8
	// numberFrom is the first bit of an entry's page.
	numberFrom = 10
	// rights are the bits of an entry that Map is handed.
	rights = api.PteR | api.PteW | api.PteX
	// always are the bits that every leaf has, so that its rights alone say what is allowed.
	always = api.PteV | api.PteU | api.PteA | api.PteD
)

// entry is an entry of a table. See shared/doc/04-page.md, section 'Tables'.
type entry uint64

// tableAt is the entry of a table that lies in a page.
func tableAt(page uint64) entry { return entry(page<<numberFrom | api.PteV) }

// leafAt is the entry of a guest's page that lies in a page of the host's.
func leafAt(page uint64, perm int) entry { return entry(page<<numberFrom|always) | entry(perm) }

// isTable tells whether it names a table.
func (e entry) isTable() bool { return e&api.PteV != 0 && e.perm() == 0 }

// isLeaf tells whether it names a guest's page.
func (e entry) isLeaf() bool { return e&api.PteV != 0 && isPerm(e.perm()) }

// number is the page that it names.
func (e entry) number() uint64 { return uint64(e) >> numberFrom }

// perm are its rights.
func (e entry) perm() int { return int(e & rights) }

// isPage tells whether a guest has a page of that number.
func isPage(page uint64) bool { return page < allPages }

// isPerm tells whether a page may be mapped with these rights.
func isPerm(perm int) bool {
	if perm&^rights != 0 || perm&(api.PteR|api.PteX) == 0 {
		return false
	}
	return perm&api.PteW == 0 || perm&api.PteR != 0
}

// indexOf is which entry a page has in a table of that level.
func indexOf(page uint64, level int) uint64 { return page >> (levelBits * level) % tableSize }

// pageAt is the page of these entries in the tables of the levels 2, 1 and 0.
func pageAt(i, j, k uint64) uint64 { return (i*tableSize+j)*tableSize + k }

// entryAt is where an entry of a table stands.
func entryAt(table, index uint64) uint64 { return table*api.PageSize + index*entrySize }
