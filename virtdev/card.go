package virtdev

import (
	"slices"

	"citadel/api"
	"citadel/virtq"
)

// minFrame is how many bytes a frame has at least: whom it is to, whom it is from, and of what kind it is.
const minFrame = 14

// What stands ahead of a frame in memory: all 0, but that a frame that comes in tells how many chains it lies in.
const (
	frameHead = 12
	chainsAt  = 10
	oneChain  = 1
)

// card is what a network card has: the frames that wait to come in, and those that wait to be taken.
type card struct{ in, out [][]byte }

// isFrame tells whether a frame may have so many bytes.
func isFrame(n int) bool { return n >= minFrame && n <= api.MaxFrame }

// hear takes a frame that comes in.
func (c *card) hear(b []byte) bool {
	if !isFrame(len(b)) || len(c.in) >= api.MaxIn {
		return false
	}
	c.in = append(c.in, slices.Clone(b))
	return true
}

// waits tells whether a frame waits to come in.
func (c *card) waits() bool { return len(c.in) > 0 }

// receive lets the first frame that waits come in, whole or not at all.
func (c *card) receive(m virtq.Mem, chain api.Chain) int {
	b := make([]byte, frameHead)
	b[chainsAt] = oneChain
	b = append(b, c.in[0]...)
	c.in = slices.Delete(c.in, 0, 1)
	room := pieces(chain.Write)
	if len(b) > room.size() {
		return 0
	}
	room.store(m, b)
	return len(b)
}

// send sends a frame.
func (c *card) send(m virtq.Mem, chain api.Chain) int {
	p := pieces(chain.Read)
	n := p.size() - frameHead
	if isFrame(n) && len(c.out) < api.MaxIn {
		c.out = append(c.out, p.cut(frameHead, n).load(m))
	}
	return 0
}

// take takes the frames that were sent.
func (c *card) take() [][]byte {
	list := c.out
	c.out = nil
	return list
}
