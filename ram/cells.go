package ram

import "citadel/api"

// cells are a frame's bytes.
type cells [api.PageSize]byte

// place is where an address that the memory has lies: in which frame, and how far into it.
func (m *RAM) place(addr uint64) (frame, at int) {
	from := addr - m.base
	return int(from / api.PageSize), int(from % api.PageSize)
}

// load copies the bytes from addr on into b, which is all 0 till then: a frame that is not there leaves it so.
// The memory has them all.
func (m *RAM) load(addr uint64, b []byte) {
	frame, at := m.place(addr)
	for len(b) > 0 {
		n := min(len(b), api.PageSize-at)
		if f := m.frames[frame]; f != nil {
			copy(b[:n], f[at:])
		}
		b, frame, at = b[n:], frame+1, 0
	}
}

// store copies b over the bytes from addr on. The memory has them all.
func (m *RAM) store(addr uint64, b []byte) {
	frame, at := m.place(addr)
	for len(b) > 0 {
		n := min(len(b), api.PageSize-at)
		copy(m.made(frame)[at:], b[:n])
		b, frame, at = b[n:], frame+1, 0
	}
}

// made is a frame that is about to be written: only then must it be there.
func (m *RAM) made(frame int) *cells {
	if m.frames[frame] == nil {
		m.frames[frame] = new(cells)
	}
	return m.frames[frame]
}

// isWidth tells whether numbers of so many bytes are read and written.
func isWidth(size int) bool {
	return size == 1 || size == 2 || size == 4 || size == 8
}

// number is the number of these bytes, the lowest first.
func number(b [8]byte) uint64 {
	var v uint64
	for i, x := range b {
		v |= uint64(x) << (8 * i)
	}
	return v
}

// bytesOf are a number's bytes, the lowest first.
func bytesOf(v uint64) [8]byte {
	var b [8]byte
	for i := range b {
		b[i] = byte(v >> (8 * i))
	}
	return b
}
