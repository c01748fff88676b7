package virtq

import "citadel/api"

// A descriptor's bytes: where its parts lie, and how many it has.
const (
	lengthAt = 8
	flagsAt  = 12
	nextAt   = 14
	descSize = 16
)

// A descriptor's flags.
const (
	moreFlag  = 1 // another one follows it
	writeFlag = 2 // the device may write it, not read it
	allFlags  = moreFlag | writeFlag
)

// descriptor is a piece of memory, as the guest says.
type descriptor struct {
	addr        uint64
	length      uint32
	flags, next uint16
}

// offered is how many chains the guest has made available that were not taken.
func (q *Queue) offered(m Mem) (uint16, api.Errno) {
	index, ok := read2(m, q.avail+indexAt)
	if !ok {
		return 0, api.ErrBound
	}
	n := index - q.taken
	if int(n) > q.size {
		return 0, api.ErrRing
	}
	return n, api.OK
}

// take takes the chain that is next.
func (q *Queue) take(m Mem) (api.Chain, api.Errno) {
	head, ok := read2(m, q.avail+firstAt+headSize*q.place(q.taken))
	if !ok {
		return api.Chain{}, api.ErrBound
	}
	q.taken++
	return q.follow(m, head)
}

// follow goes from a head to its chain's end. The guest may turn its memory at any time: each number of it is read once.
func (q *Queue) follow(m Mem, head uint16) (api.Chain, api.Errno) {
	c := api.Chain{Head: int(head)}
	index, gone := head, 0
again:
	if int(index) >= q.size {
		return api.Chain{}, api.ErrBound
	}
	if gone == q.size {
		return api.Chain{}, api.ErrLoop
	}
	d, ok := q.load(m, index)
	if !ok || !d.may(m, len(c.Write) > 0) {
		return api.Chain{}, api.ErrBound
	}
	if d.has(writeFlag) {
		c.Write = append(c.Write, d.piece())
	} else {
		c.Read = append(c.Read, d.piece())
	}
	if d.has(moreFlag) {
		index, gone = d.next, gone+1
		goto again
	}
	return c, api.OK
}

// load reads a descriptor.
func (q *Queue) load(m Mem, index uint16) (descriptor, bool) {
	at := q.desc + descSize*uint64(index)
	addr, hasAddr := m.Read(at, 8)
	length, hasLength := m.Read(at+lengthAt, 4)
	flags, hasFlags := read2(m, at+flagsAt)
	next, hasNext := read2(m, at+nextAt)
	return descriptor{addr, uint32(length), flags, next}, hasAddr && hasLength && hasFlags && hasNext
}

// may tells whether it may stand in a chain, behind one that is written or not.
func (d descriptor) may(m Mem, behindWritten bool) bool {
	if d.flags&^allFlags != 0 || behindWritten && !d.has(writeFlag) {
		return false
	}
	return d.length == 0 || m.Has(d.addr, int(d.length))
}

// has tells whether it has a flag.
func (d descriptor) has(flag uint16) bool { return d.flags&flag != 0 }

// piece is the piece of memory that it is.
func (d descriptor) piece() api.Seg { return api.Seg{Addr: d.addr, Len: int(d.length)} }
