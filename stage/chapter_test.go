package stage_test

import (
	"slices"

	"citadel/api"
)

// chapter is a space as the chapter says it: its pages, and which frames are tables for what.
type chapter struct {
	base   uint64 // the memory's
	frames int
	vmid   int
	tables []int          // in the order in which they were taken
	middle map[uint64]int // the table of level 1 of pages / 2^18
	low    map[uint64]int // the table of level 0 of pages / 2^9
	pages  map[uint64]api.Page
}

// begin is New, where these frames are free.
func begin(base uint64, frames, vmid int, free []int) (*chapter, api.Errno) {
	if vmid < 1 || vmid > api.MaxVmid {
		return nil, api.ErrArg
	}
	if len(free) == 0 {
		return nil, api.ErrFrames
	}
	return &chapter{base: base, frames: frames, vmid: vmid, tables: []int{free[0]}, middle: map[uint64]int{}, low: map[uint64]int{}, pages: map[uint64]api.Page{}}, api.OK
}

// isPerm tells whether rights may be.
func isPerm(perm int) bool { return slices.Contains(perms, perm) }

// mapped is Map, where these frames are free.
func (c *chapter) mapped(x api.Page, free []int) api.Errno {
	if x.Page > highest || x.Frame < 0 || x.Frame >= c.frames || !isPerm(x.Perm) {
		return api.ErrArg
	}
	if _, ok := c.pages[x.Page]; ok {
		return api.ErrMapped
	}
	_, middle := c.middle[x.Page>>18]
	_, low := c.low[x.Page>>9]
	wanted := 0
	if !middle {
		wanted++
	}
	if !low {
		wanted++
	}
	if len(free) < wanted {
		return api.ErrFrames
	}
	c.tables = append(c.tables, free[:wanted]...)
	if !middle {
		c.middle[x.Page>>18], free = free[0], free[1:]
	}
	if !low {
		c.low[x.Page>>9] = free[0]
	}
	c.pages[x.Page] = x
	return api.OK
}

// unmapped is Unmap.
func (c *chapter) unmapped(number uint64) (int, api.Errno) {
	x, ok := c.pages[number]
	if !ok {
		return 0, api.ErrNotMap
	}
	delete(c.pages, number)
	return x.Frame, api.OK
}

// protected is Protect.
func (c *chapter) protected(number uint64, perm int) api.Errno {
	if number > highest || !isPerm(perm) {
		return api.ErrArg
	}
	x, ok := c.pages[number]
	if !ok {
		return api.ErrNotMap
	}
	x.Perm = perm
	c.pages[number] = x
	return api.OK
}

// all is Pages.
func (c *chapter) all() []api.Page {
	var list []api.Page
	for _, x := range c.pages {
		list = append(list, x)
	}
	slices.SortFunc(list, func(a, b api.Page) int { return int(a.Page) - int(b.Page) })
	return list
}

// lay lays the bytes of its tables into the memory's.
func (c *chapter) lay(memory []byte) {
	for _, f := range c.tables {
		clear(memory[f*size : (f+1)*size])
	}
	put := func(table int, i uint64, f int, bits uint64) {
		e := (c.base/size+uint64(f))<<10 | bits
		for k := range 8 {
			memory[table*size+int(i)*8+k] = byte(e >> (8 * k))
		}
	}
	for i, f := range c.middle {
		put(c.tables[0], i, f, api.PteV)
	}
	for i, f := range c.low {
		put(c.middle[i>>9], i%512, f, api.PteV)
	}
	for i, x := range c.pages {
		put(c.low[i>>9], i%512, x.Frame, api.PteV|api.PteU|api.PteA|api.PteD|uint64(x.Perm))
	}
}
