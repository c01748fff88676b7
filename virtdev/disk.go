package virtdev

import (
	"citadel/api"
	"citadel/virtq"
)

// sectorSize is how many bytes a sector has.
const sectorSize = 512

// A request: its head, then the data that goes to the disk; and the data that comes from it, then the status.
const (
	headSize   = 16
	kindSize   = 4
	sectorFrom = 8
	statusSize = 1
)

// What a request asks for.
const (
	asksRead  = 0
	asksWrite = 1
	asksFlush = 4
)

// What came of a request.
const (
	statusDone    = 0
	statusFailed  = 1
	statusUnknown = 2
)

// disk is what a disk has.
type disk struct{ bytes []byte }

// isDisk tells whether a disk may have these bytes.
func isDisk(b []byte) bool { return len(b) <= api.MaxDisk*sectorSize && len(b)%sectorSize == 0 }

// sectors is how many it has.
func (d *disk) sectors() uint64 { return uint64(len(d.bytes) / sectorSize) }

// hear: nothing comes in.
func (d *disk) hear([]byte) bool { return false }

// serve does a request.
func (d *disk) serve(m virtq.Mem, c api.Chain) int {
	ask, answer := pieces(c.Read), pieces(c.Write)
	behindHead, aheadOfStatus := ask.size()-headSize, answer.size()-statusSize
	if behindHead < 0 || aheadOfStatus < 0 {
		return 0
	}
	head := ask.cut(0, headSize).load(m)
	r := request{
		sector: number(head[sectorFrom:]),
		from:   ask.cut(headSize, behindHead),
		to:     answer.cut(0, aheadOfStatus),
	}
	status, written := d.do(m, number(head[:kindSize]), r)
	answer.cut(aheadOfStatus, statusSize).store(m, []byte{status})
	return written + statusSize
}

// request is what a request's data is about: the first sector of it, where what goes to the disk lies in the memory, and
// where what comes from it.
type request struct {
	sector   uint64
	from, to pieces
}

// do does what a kind of requests asks for, and tells the status, and how many bytes of data were written.
func (d *disk) do(m virtq.Mem, kind uint64, r request) (status byte, written int) {
	switch kind {
	case asksRead:
		b, ok := d.part(r.sector, r.to.size())
		if !ok {
			return statusFailed, 0
		}
		r.to.store(m, b)
		return statusDone, len(b)
	case asksWrite:
		b, ok := d.part(r.sector, r.from.size())
		if !ok {
			return statusFailed, 0
		}
		copy(b, r.from.load(m))
		return statusDone, 0
	case asksFlush:
		return statusDone, 0
	}
	return statusUnknown, 0
}

// part is the disk's own n bytes from a sector on, if it has them, and they are whole sectors. Right behind the last
// sector there are none, and beyond that not even those.
func (d *disk) part(sector uint64, n int) ([]byte, bool) {
	if sector > d.sectors() || n%sectorSize != 0 {
		return nil, false
	}
	rest := d.bytes[sector*sectorSize:]
	if n > len(rest) {
		return nil, false
	}
	return rest[:n], true
}

// number is the number of these bytes, the lowest first.
func number(b []byte) uint64 {
	var v uint64
	for i, x := range b {
		v |= uint64(x) << (8 * i)
	}
	return v
}
