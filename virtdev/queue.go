package virtdev

import (
	"citadel/api"
	"citadel/virtq"
)

// queue is a queue, and what its registers hold: how it will be set up.
type queue struct {
	ring              *virtq.Queue
	size              uint32
	desc, avail, used halves
}

// tell is what a register of the queue's is read as.
func (q *queue) tell(off uint64) uint32 {
	switch {
	case off == maxSizeAt:
		return api.MaxQueue
	case q.ring.Ready():
		return 1
	}
	return 0
}

// set writes a register of the queue's.
func (q *queue) set(off uint64, v uint32) {
	switch off {
	case sizeAt:
		q.size = v
	case readyAt:
		q.turn(v)
	case descAt, descAt + regSize:
		q.desc.set(off, v)
	case availAt, availAt + regSize:
		q.avail.set(off, v)
	case usedAt, usedAt + regSize:
		q.used.set(off, v)
	}
}

// turn makes it ready, if it may be, or as new.
func (q *queue) turn(v uint32) {
	switch v {
	case 0:
		q.ring.Reset()
	case 1:
		q.ring.Setup(int(q.size), q.desc.word(), q.avail.word(), q.used.word())
	}
}

// reset makes it new, with registers of 0.
func (q *queue) reset() {
	q.ring.Reset()
	*q = queue{ring: q.ring}
}

// halves are the low and the high half of a word, which have a register each.
type halves [2]uint32

// set writes the half whose register is at off.
func (h *halves) set(off uint64, v uint32) { h[off/regSize%2] = v }

// word is the word.
func (h *halves) word() uint64 { return uint64(h[1])<<32 | uint64(h[0]) }
