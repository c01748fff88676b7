package pci

import "citadel/api"

// spaceSize is how many bytes a slot has.
const spaceSize = 256

// Where a slot's space has what.
const (
	vendorAt    = 0x00
	deviceAt    = 0x02
	commandAt   = 0x04
	statusAt    = 0x06
	classAt     = 0x08
	baseAt      = 0x10
	subVendorAt = 0x2c
	kindAt      = 0x2e
	listAt      = 0x34
	lineAt      = 0x3c
	pinAt       = 0x3d
	firstCapAt  = 0x40
	lastCapAt   = 0x50
)

// What stands there and is never written. An entry of capabilities has its kind, the next one's offset, its length,
// and what it tells, from its lowest byte on.
const (
	vendor      = 0x1af4
	firstDevice = 0x1040
	hasList     = 0x0010
	class       = 0xff000001
	pinA        = 1
	firstCap    = 0x01100009 | lastCapAt<<8
	lastCap     = 0x02100009
)

// Bits that may be written. A base's lower bits stay 0, and so tell a guest that writes all ones how many bytes the
// registers take.
const (
	answersBit = 0x02
	mastersBit = 0x04
	lineBits   = 0xff

	baseBits uint32 = 1<<32 - api.PageSize
)

// space is the bytes of a slot.
type space [spaceSize]byte

// newSpace is a slot's space at its beginning.
func newSpace(kind int) space {
	var s space
	s.put(vendorAt, 2, vendor)
	s.put(deviceAt, 2, firstDevice+uint64(kind))
	s.put(statusAt, 2, hasList)
	s.put(classAt, 4, class)
	s.put(subVendorAt, 2, vendor)
	s.put(kindAt, 2, uint64(kind))
	s.put(listAt, 1, firstCapAt)
	s.put(pinAt, 1, pinA)
	s.put(firstCapAt, 4, firstCap)
	s.put(lastCapAt, 4, lastCap)
	return s
}

// fits tells whether so many bytes may be asked for at an offset. Each size divides spaceSize, so what begins in it,
// at a multiple of the size, ends in it too.
func fits(off uint64, size int) bool {
	switch size {
	case 1, 2, 4:
		return off < spaceSize && off%uint64(size) == 0
	}
	return false
}

// writable are the bits of a byte that may be written.
func writable(off uint64) byte {
	switch off {
	case commandAt:
		return answersBit | mastersBit
	case baseAt, baseAt + 1, baseAt + 2, baseAt + 3:
		return byte(baseBits >> (8 * (off - baseAt)))
	case lineAt:
		return lineBits
	}
	return 0
}

// get is the number that so many bytes are.
func (s *space) get(off uint64, size int) uint64 {
	var v uint64
	for i := range uint64(size) {
		v |= uint64(s[off+i]) << (8 * i)
	}
	return v
}

// put lays a number into so many bytes, whether or not they may be written.
func (s *space) put(off uint64, size int, v uint64) {
	for i := range uint64(size) {
		s[off+i] = byte(v >> (8 * i))
	}
}

// set writes a number's bits into so many bytes, as far as they may be written.
func (s *space) set(off uint64, size int, v uint64) {
	for i := range uint64(size) {
		bits := writable(off + i)
		s[off+i] = s[off+i]&^bits | byte(v>>(8*i))&bits
	}
}
