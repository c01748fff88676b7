package virtdev

import (
	"citadel/api"
	"citadel/virtq"
)

// pieces are pieces of a guest's memory, whose bytes are gone through as if they stood one behind the other.
type pieces []api.Seg

// size is how many bytes they have.
func (p pieces) size() int {
	n := 0
	for _, s := range p {
		n += s.Len
	}
	return n
}

// cut is n of their bytes, or as many as there are, behind so many. It skips by pieces: these may be huge.
func (p pieces) cut(behind, n int) pieces {
	var list pieces
	for _, s := range p {
		skip := min(behind, s.Len)
		take := min(n, s.Len-skip)
		list = append(list, api.Seg{Addr: s.Addr + uint64(skip), Len: take})
		behind, n = behind-skip, n-take
	}
	return list
}

// load reads all their bytes.
func (p pieces) load(m virtq.Mem) []byte {
	var list []byte
	for _, s := range p {
		for i := range s.Len {
			v, _ := m.Read(s.Addr+uint64(i), 1)
			list = append(list, byte(v))
		}
	}
	return list
}

// store writes b over their first bytes, each by itself: one that the memory refuses is left out, and no other.
func (p pieces) store(m virtq.Mem, b []byte) {
	for _, s := range p {
		n := min(s.Len, len(b))
		for i, v := range b[:n] {
			m.Write(s.Addr+uint64(i), 1, uint64(v))
		}
		b = b[n:]
	}
}
