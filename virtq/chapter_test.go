package virtq_test

import (
	"slices"

	"citadel/api"
)

// chapter is the chapter read out word by word: what a queue must answer, and do. It reads and writes memory byte by
// byte, and counts chains without end.
type chapter struct {
	ready, dead       bool
	size              int
	desc, avail, used uint64
	taken, given      int
}

// setup is Setup.
func (c *chapter) setup(size int, desc, avail, used uint64) api.Errno {
	if c.ready || !slices.Contains(sizes, size) || desc&15 != 0 || avail&1 != 0 || used&3 != 0 || (desc|avail|used)>>60 != 0 {
		return api.ErrArg
	}
	*c = chapter{ready: true, size: size, desc: desc, avail: avail, used: used}
	return api.OK
}

// state is what is answered ahead of all else.
func (c *chapter) state() api.Errno {
	switch {
	case !c.ready:
		return api.ErrRing
	case c.dead:
		return api.ErrDead
	}
	return api.OK
}

// next is Next.
func (c *chapter) next(l *land) (api.Chain, bool, api.Errno) {
	if e := c.state(); e != api.OK {
		return api.Chain{}, false, e
	}
	index, ok := l.number(c.avail+2, 2)
	if !ok {
		return c.wrong(api.ErrBound)
	}
	ahead := (int(index) - c.taken) % 65536
	if ahead < 0 {
		ahead += 65536
	}
	if ahead == 0 {
		return api.Chain{}, false, api.OK
	}
	if ahead > c.size {
		return c.wrong(api.ErrRing)
	}
	head, ok := l.number(c.avail+4+2*uint64(c.taken%c.size), 2)
	if !ok {
		return c.wrong(api.ErrBound)
	}
	c.taken++
	return c.chain(l, head)
}

// wrong is what Next answers with an error.
func (c *chapter) wrong(e api.Errno) (api.Chain, bool, api.Errno) {
	c.dead = true
	return api.Chain{}, false, e
}

// chain is the chain from a head on.
func (c *chapter) chain(l *land, head uint64) (api.Chain, bool, api.Errno) {
	chain := api.Chain{Head: int(head)}
	written := false
	for at, n := head, 0; ; n++ {
		if at >= uint64(c.size) {
			return c.wrong(api.ErrBound)
		}
		if n == c.size {
			return c.wrong(api.ErrLoop)
		}
		var d [4]uint64
		for i, x := range [4]struct {
			off uint64
			n   int
		}{{0, 8}, {8, 4}, {12, 2}, {14, 2}} {
			v, ok := l.number(c.desc+16*at+x.off, x.n)
			if !ok {
				return c.wrong(api.ErrBound)
			}
			d[i] = v
		}
		addr, length, flags, next := d[0], d[1], d[2], d[3]
		if flags > 3 || length > 0 && !l.has(addr, length) || written && flags < 2 {
			return c.wrong(api.ErrBound)
		}
		if flags >= 2 {
			written = true
			chain.Write = append(chain.Write, api.Seg{Addr: addr, Len: int(length)})
		} else {
			chain.Read = append(chain.Read, api.Seg{Addr: addr, Len: int(length)})
		}
		if flags%2 == 0 {
			return chain, true, api.OK
		}
		at = next
	}
}

// push is Push.
func (c *chapter) push(l *land, head int, n uint64) api.Errno {
	if e := c.state(); e != api.OK {
		return e
	}
	at := c.used + 4 + 8*uint64(c.given%c.size)
	for _, x := range []struct {
		at uint64
		n  int
		v  uint64
	}{{at, 4, uint64(head)}, {at + 4, 4, n}, {c.used + 2, 2, uint64(c.given + 1)}} {
		if !l.put(x.at, x.n, x.v) {
			c.dead = true
			return api.ErrBound
		}
	}
	c.given++
	return api.OK
}

// quiet is Quiet.
func (c *chapter) quiet(l *land) bool {
	if !c.ready {
		return false
	}
	v, ok := l.number(c.avail, 2)
	return ok && v%2 == 1
}
