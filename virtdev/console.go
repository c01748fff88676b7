package virtdev

import (
	"slices"

	"citadel/api"
	"citadel/virtq"
)

// console is what a console has: the bytes that wait to come in, and all that it has sent.
type console struct{ in, sent []byte }

// hear takes bytes that come in.
func (c *console) hear(b []byte) bool {
	if len(b) == 0 || len(b) > api.MaxIn-len(c.in) {
		return false
	}
	c.in = append(c.in, b...)
	return true
}

// waits tells whether bytes wait to come in.
func (c *console) waits() bool { return len(c.in) > 0 }

// receive lets as many bytes come in as there is room for.
func (c *console) receive(m virtq.Mem, chain api.Chain) int {
	room := pieces(chain.Write)
	n := min(len(c.in), room.size())
	room.store(m, c.in[:n])
	c.in = slices.Delete(c.in, 0, n)
	return n
}

// send sends bytes.
func (c *console) send(m virtq.Mem, chain api.Chain) int {
	c.sent = append(c.sent, pieces(chain.Read).cut(0, api.PageSize).load(m)...)
	return 0
}
