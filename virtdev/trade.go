package virtdev

import (
	"citadel/api"
	"citadel/virtq"
)

// The queues of a device that has two.
const (
	inQueue  = 0
	outQueue = 1
)

// trade is what devices of a kind do: with the chains of each queue, and with what comes in, which waits or is lost.
type trade struct {
	deeds []deed
	hear  func(b []byte) bool
}

// deed is what a device does with the chains of a queue: whether it wants one, and what it does with it, which tells
// how many bytes it wrote.
type deed struct {
	wants func() bool
	do    func(m virtq.Mem, c api.Chain) int
}

// trade is what it does: nothing, if its kind is none.
func (d *Dev) trade() trade {
	d.once.Do(d.lay)
	return d.trades[d.kind]
}

// lay makes the table of what the kinds do.
func (d *Dev) lay() {
	d.trades = map[int]trade{
		api.DevBlk:     {[]deed{{always, d.disk.serve}}, d.disk.hear},
		api.DevNet:     {[]deed{inQueue: {d.card.waits, d.card.receive}, outQueue: {always, d.card.send}}, d.card.hear},
		api.DevConsole: {[]deed{inQueue: {d.console.waits, d.console.receive}, outQueue: {always, d.console.send}}, d.console.hear},
	}
}

// always: what a driver asks for, or sends, is done whenever it is there.
func always() bool { return true }

// notice is a driver's word that a queue has chains, or that something came in for it: it counts while the driver is
// at work, for a queue that is there and works.
func (d *Dev) notice(m virtq.Mem, number uint32) {
	q := d.queue(number)
	if d.held.status&driverBit == 0 || q == nil || !q.ring.Ready() || q.ring.Dead() {
		return
	}
	if serve(m, q.ring, d.trade().deeds[number]) && !q.ring.Quiet(m) {
		d.held.interrupts |= givenBit
	}
	if q.ring.Dead() {
		d.held.status |= brokenBit
		d.held.interrupts |= deadBit
	}
}

// serve does the chains of a queue, and tells whether one was given back. A chain may let the device write into the
// rings, so that there is always another one: it does no more than MaxQueue.
func serve(m virtq.Mem, q *virtq.Queue, does deed) bool {
	given := false
	for range api.MaxQueue {
		if !does.wants() {
			break
		}
		c, ok, _ := q.Next(m)
		if !ok {
			break
		}
		if q.Push(m, c.Head, uint64(does.do(m, c))) == api.OK {
			given = true
		}
	}
	return given
}
