package virtdev_test

import (
	"bytes"
	"encoding/binary"
	"fmt"

	"citadel/api"
	"citadel/virtq"
)

// chapter is the chapter read out word by word: what a device must tell, and do. It asks for bytes of chains one by
// one, by their numbers, and writes only what its land says may be written.
type chapter struct {
	kind   int
	disk   []byte
	sent   []byte
	frames [][]byte // sent, and not taken

	frameWaits [][]byte
	byteWaits  []byte

	queues       []*virtq.Queue
	queueRegs    []map[uint64]uint64
	offeredSel   uint64
	acceptedSel  uint64
	queueSel     uint64
	accepted     map[uint64]uint64
	status, ints uint64

	saw map[string]int // how often what was done
}

// newChapter is New, of a kind and a disk that may be.
func newChapter(kind int, disk []byte) *chapter {
	c := &chapter{kind: kind, disk: bytes.Clone(disk), saw: map[string]int{}}
	c.reset()
	return c
}

// reset: status, selections, accepted features, the queues' sizes and addresses 0, no interrupts, queues as virtq.New;
// what waits to come in is gone.
func (c *chapter) reset() {
	c.frameWaits, c.byteWaits = nil, nil
	c.queues, c.queueRegs = nil, nil
	n := 2
	if c.kind == api.DevBlk {
		n = 1
	}
	for range n {
		c.queues = append(c.queues, virtq.New())
		c.queueRegs = append(c.queueRegs, map[uint64]uint64{})
	}
	c.offeredSel, c.acceptedSel, c.queueSel = 0, 0, 0
	c.accepted = map[uint64]uint64{}
	c.status, c.ints = 0, 0
}

// there tells whether the selected queue is there.
func (c *chapter) there() bool { return c.queueSel < uint64(len(c.queues)) }

// read is Read.
func (c *chapter) read(off uint64, size int) (uint64, bool) {
	if size != 4 || off%4 != 0 || off > 0x1fc {
		return 0, false
	}
	v := uint64(0)
	switch off {
	case 0x00:
		v = 0x74726976
	case 0x04:
		v = 2
	case 0x08:
		v = uint64(c.kind)
	case 0x0c:
		v = 0x554d4551
	case 0x10:
		if c.offeredSel == 1 {
			v = 1
		}
	case 0x34:
		if c.there() {
			v = 64
		}
	case 0x44:
		if c.there() && c.queues[c.queueSel].Ready() {
			v = 1
		}
	case 0x60:
		v = c.ints
	case 0x70:
		v = c.status
	case 0x100:
		if c.kind == api.DevBlk {
			v = uint64(len(c.disk)) / 512
		}
	}
	return v, true
}

// write is Write.
func (c *chapter) write(l *land, off uint64, size int, v uint64) bool {
	if size != 4 || off%4 != 0 || off > 0x1fc {
		return false
	}
	v %= 1 << 32
	switch off {
	case 0x14:
		c.offeredSel = v
	case 0x24:
		c.acceptedSel = v
	case 0x20:
		if c.acceptedSel == 0 || c.acceptedSel == 1 {
			c.accepted[c.acceptedSel] = v
		}
	case 0x30:
		c.queueSel = v
	case 0x38, 0x80, 0x84, 0x90, 0x94, 0xa0, 0xa4:
		if c.there() {
			c.queueRegs[c.queueSel][off] = v
		}
	case 0x44:
		if c.there() {
			c.turnQueue(v)
		}
	case 0x50:
		if c.status&4 != 0 {
			c.serve(l, v)
		}
	case 0x64:
		c.ints -= c.ints & v
	case 0x70:
		c.writeStatus(v)
	}
	return true
}

// turnQueue is what is written to 0x44.
func (c *chapter) turnQueue(v uint64) {
	q, r := c.queues[c.queueSel], c.queueRegs[c.queueSel]
	if v == 1 {
		q.Setup(int(r[0x38]), r[0x84]*(1<<32)+r[0x80], r[0x94]*(1<<32)+r[0x90], r[0xa4]*(1<<32)+r[0xa0])
	}
	if v == 0 {
		q.Reset()
	}
}

// writeStatus is what is written to 0x70.
func (c *chapter) writeStatus(v uint64) {
	if v == 0 {
		c.reset()
		return
	}
	was := c.status
	c.status = v % 256
	if c.status&8 != 0 && !(c.accepted[0] == 0 && c.accepted[1] == 1) {
		c.status -= 8
	}
	c.status = c.status&0xbf + was&0x40
}

// serve is P14.3.
func (c *chapter) serve(l *land, number uint64) {
	if number >= uint64(len(c.queues)) || !c.queues[number].Ready() || c.queues[number].Dead() {
		return
	}
	q := c.queues[number]
	back := 0
	for done := 0; done < 64; done++ {
		if c.kind != api.DevBlk && number == 0 && len(c.frameWaits) == 0 && len(c.byteWaits) == 0 {
			break
		}
		chain, ok, e := q.Next(l.m)
		if !ok || e != api.OK {
			break
		}
		if e := q.Push(l.m, chain.Head, c.do(l, number, chain)); e == api.OK {
			back++
		}
	}
	if back > 0 && !q.Quiet(l.m) {
		c.ints |= 1
		c.saw["an interrupt"]++
	} else if back > 0 {
		c.saw["a quiet queue"]++
	}
	if q.Dead() {
		c.saw["a dead queue"]++
		c.status |= 64
		c.ints |= 2
	}
}

// do does a chain, and tells how many bytes were written.
func (c *chapter) do(l *land, number uint64, chain api.Chain) uint64 {
	switch {
	case c.kind == api.DevBlk:
		return c.request(l, chain)
	case c.kind == api.DevNet && number == 1:
		c.frameOut(l, chain)
		return 0
	case c.kind == api.DevConsole && number == 1:
		c.saw["bytes out"]++
		for i := 0; i < sizeOf(chain.Read) && i < 4096; i++ {
			c.sent = append(c.sent, l.get(chain.Read, i))
		}
		return 0
	case c.kind == api.DevNet:
		return c.frameIn(l, chain)
	}
	c.saw["bytes in"]++
	n := 0
	for len(c.byteWaits) > 0 && n < sizeOf(chain.Write) {
		l.put(chain.Write, n, c.byteWaits[0])
		c.byteWaits = c.byteWaits[1:]
		n++
	}
	return uint64(n)
}

// request is what a disk does with a chain.
func (c *chapter) request(l *land, chain api.Chain) uint64 {
	toRead, toWrite := sizeOf(chain.Read), sizeOf(chain.Write)
	if toRead < 16 || toWrite == 0 {
		c.saw["no request"]++
		return 0
	}
	var head [16]byte
	for i := range head {
		head[i] = l.get(chain.Read, i)
	}
	kind, sector := binary.LittleEndian.Uint32(head[:]), binary.LittleEndian.Uint64(head[8:])
	status, n := byte(0), uint64(0)
	switch kind {
	case 0:
		if status = c.lies(sector, toWrite-1); status == 0 {
			for i := range toWrite - 1 {
				l.put(chain.Write, i, c.disk[int(sector)*512+i])
				n++
			}
		}
	case 1:
		if status = c.lies(sector, toRead-16); status == 0 {
			for i := range toRead - 16 {
				c.disk[int(sector)*512+i] = l.get(chain.Read, 16+i)
			}
		}
	case 4:
	default:
		status = 2
	}
	l.put(chain.Write, toWrite-1, status)
	c.saw[fmt.Sprintf("kind %d, status %d", min(kind, 9), status)]++
	return n + 1
}

// lies is the status of n bytes from a sector on.
func (c *chapter) lies(sector uint64, n int) byte {
	if sector > uint64(len(c.disk))/512 || n%512 != 0 || sector*512+uint64(n) > uint64(len(c.disk)) {
		return 1
	}
	return 0
}

// frameOut is what a card does with a chain that goes out.
func (c *chapter) frameOut(l *land, chain api.Chain) {
	n := sizeOf(chain.Read)
	if n < 12+14 || n > 12+1514 {
		c.saw["no frame out"]++
		return
	}
	if len(c.frames) == 64 {
		c.saw["a frame lost"]++
		return
	}
	c.saw["a frame out"]++
	var b []byte
	for i := 12; i < n; i++ {
		b = append(b, l.get(chain.Read, i))
	}
	c.frames = append(c.frames, b)
}

// frameIn is what a card does with a chain for what comes in.
func (c *chapter) frameIn(l *land, chain api.Chain) uint64 {
	b := append([]byte{0, 0, 0, 0, 0, 0, 0, 0, 0, 0, 1, 0}, c.frameWaits[0]...)
	c.frameWaits = c.frameWaits[1:]
	if len(b) > sizeOf(chain.Write) {
		c.saw["no room for a frame"]++
		return 0
	}
	c.saw["a frame in"]++
	for i, v := range b {
		l.put(chain.Write, i, v)
	}
	return uint64(len(b))
}

// in is In.
func (c *chapter) in(l *land, b []byte) bool {
	switch {
	case c.kind == api.DevNet && len(b) >= 14 && len(b) <= 1514 && len(c.frameWaits) < 64:
		c.frameWaits = append(c.frameWaits, bytes.Clone(b))
	case c.kind == api.DevConsole && len(b) > 0 && len(c.byteWaits)+len(b) <= 64:
		c.byteWaits = append(bytes.Clone(c.byteWaits), b...)
	default:
		c.saw["what comes in is lost"]++
		return false
	}
	if c.status&4 != 0 {
		c.serve(l, 0)
	}
	return true
}

// take is Take.
func (c *chapter) take() [][]byte {
	list := c.frames
	c.frames = nil
	return list
}

// byteAt is where the byte of a number lies, of pieces that stand one behind the other.
func byteAt(list []api.Seg, i int) uint64 {
	for _, s := range list {
		if i < s.Len {
			return s.Addr + uint64(i)
		}
		i -= s.Len
	}
	panic("no such byte")
}

// get is a byte of pieces.
func (l *land) get(list []api.Seg, i int) byte {
	v, _ := l.m.Read(byteAt(list, i), 1)
	return byte(v)
}

// put writes a byte of pieces, if it may be.
func (l *land) put(list []api.Seg, i int, v byte) {
	if at := byteAt(list, i); l.writes(at) {
		l.m.Write(at, 1, uint64(v))
	}
}
