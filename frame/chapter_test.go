package frame_test

import (
	"slices"

	"citadel/api"
)

// kinds of what is done to a pool.
const (
	take = iota
	release
	ack
	ackDevices
	write
	kinds
)

// deed is something that is done to a pool, or to its memory: n is the owner, the frame or the hart, b the byte that is written over a frame.
type deed struct {
	kind, n int
	b       byte
}

// chapter is the chapter read out over all that was done: nothing but the deeds and their answers is kept.
type chapter struct {
	frames, reserved, harts int
	done                    []deed
	took                    []int // what each deed's Take gave, -1 where it gave none
}

// isFrame tells whether there is such a frame.
func (c *chapter) isFrame(f int) bool { return 0 <= f && f < c.frames }

// last is the deed that gave a frame its owner, or sent it into limbo; -1: none has.
func (c *chapter) last(f int) int {
	for i := len(c.done) - 1; i >= 0; i-- {
		if c.done[i].kind == release && c.done[i].n == f && c.took[i] == f || c.done[i].kind == take && c.took[i] == f {
			return i
		}
	}
	return -1
}

// missing are those who have not acknowledged behind the deed i: harts, and the devices as -1.
func (c *chapter) missing(i int) map[int]bool {
	left := map[int]bool{-1: true}
	for h := range c.harts {
		left[h] = true
	}
	for _, d := range c.done[i+1:] {
		switch d.kind {
		case ack:
			if d.n >= 0 {
				delete(left, d.n)
			}
		case ackDevices:
			delete(left, -1)
		}
	}
	return left
}

// owner is Owner.
func (c *chapter) owner(f int) int {
	if !c.isFrame(f) || f < c.reserved {
		return api.Monitor
	}
	i := c.last(f)
	switch {
	case i < 0:
		return api.Free
	case c.done[i].kind == take:
		return c.done[i].n
	case len(c.missing(i)) > 0:
		return api.Limbo
	}
	return api.Free
}

// waits is Waits.
func (c *chapter) waits(f int) uint64 {
	if !c.isFrame(f) || c.owner(f) != api.Limbo {
		return 0
	}
	var bits uint64
	for who := range c.missing(c.last(f)) {
		if who == -1 {
			who = 63
		}
		bits += 1 << who
	}
	return bits
}

// count is Count.
func (c *chapter) count(owner int) int {
	n := 0
	for f := range c.frames {
		if c.owner(f) == owner {
			n++
		}
	}
	return n
}

// do does a deed, and tells what is answered: of a Take the frame, of an acknowledgement how many.
func (c *chapter) do(d deed) (int, api.Errno) {
	limbo, n, e := c.count(api.Limbo), 0, api.OK
	took := -1
	switch d.kind {
	case take:
		n, e = c.lowest(d.n)
		if e == api.OK {
			took = n
		}
	case release:
		if !slices.Contains(takers, c.owner(d.n)) || d.n < c.reserved || !c.isFrame(d.n) {
			e = api.ErrOwner
		} else {
			took = d.n
		}
	}
	c.done, c.took = append(c.done, d), append(c.took, took)
	if d.kind == ack || d.kind == ackDevices {
		n = limbo - c.count(api.Limbo)
	}
	return n, e
}

// lowest is what Take gives.
func (c *chapter) lowest(owner int) (int, api.Errno) {
	if !slices.Contains(takers, owner) {
		return 0, api.ErrArg
	}
	for f := range c.frames {
		if c.owner(f) == api.Free {
			return f, api.OK
		}
	}
	return 0, api.ErrFrames
}

// holds is the byte that all of a frame's are: the last one written, if the frame did not become free since.
func (c *chapter) holds(f int) byte {
	for i := len(c.done) - 1; i >= 0; i-- {
		switch {
		case c.done[i].kind == write && c.done[i].n == f:
			return c.done[i].b
		case c.becameFree(f, i):
			return 0
		}
	}
	return 0
}

// becameFree tells whether a frame became free by the deed i.
func (c *chapter) becameFree(f, i int) bool {
	if c.done[i].kind != ack && c.done[i].kind != ackDevices {
		return false
	}
	ahead, behind := *c, *c
	ahead.done, behind.done = c.done[:i], c.done[:i+1]
	return ahead.owner(f) == api.Limbo && behind.owner(f) == api.Free
}
