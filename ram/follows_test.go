package ram_test

import (
	"bytes"
	"math/rand"
	"testing"

	"citadel/ram"
)

// plain is a memory as one list of bytes, each written by itself.
type plain struct {
	base uint64
	b    []byte
}

// write is what P3.2 and P3.3 ask: all of the bytes, or none.
func (p *plain) write(addr uint64, b []byte) bool {
	end := p.base + uint64(len(p.b))
	if addr < p.base || addr > end || uint64(len(b)) > end-addr {
		return false
	}
	for i, x := range b {
		p.b[addr-p.base+uint64(i)] = x
	}
	return true
}

// clear is what P3.3 asks.
func (p *plain) clear(frame int) bool {
	if frame < 0 || frame*page >= len(p.b) {
		return false
	}
	clear(p.b[frame*page : (frame+1)*page])
	return true
}

// number is v's low bytes, where there is a number of that size.
func number(size int, v uint64) []byte {
	b := make([]byte, size)
	for i := range b {
		b[i], v = byte(v), v>>8
	}
	return b
}

// address is mostly about the ends of frames, where what is written goes astray first.
func address(r *rand.Rand, p *plain) uint64 {
	span := len(p.b)
	if r.Intn(3) == 0 {
		return p.base + uint64(r.Intn(span+40)) - 20
	}
	return p.base + uint64(r.Intn(span/page+1)*page) + uint64(r.Intn(24)) - 12
}

// turn does one thing to both, and tells whether they answered alike.
func turn(r *rand.Rand, m *ram.RAM, p *plain) bool {
	addr := address(r, p)
	switch r.Intn(8) {
	case 0:
		frame := r.Intn(len(p.b)/page+2) - 1
		return m.Clear(frame) == p.clear(frame)
	case 1, 2:
		b := make([]byte, r.Intn(2*page))
		r.Read(b)
		return m.Fill(addr, b) == p.write(addr, b)
	case 3:
		size := r.Intn(12) - 1
		if size != 1 && size != 2 && size != 4 && size != 8 {
			return !m.Write(addr, size, r.Uint64())
		}
		fallthrough
	default:
		size, v := 1<<r.Intn(4), r.Uint64()
		return m.Write(addr, size, v) == p.write(addr, number(size, v))
	}
}

// P3.4: over long lives, a byte is what was written into it last, or 0; what is refused, and what copies go through, turns none.
func TestLastWrittenStands(t *testing.T) {
	for seed := range int64(6) {
		r := rand.New(rand.NewSource(seed))
		base, frames := uint64(seed)<<49, 1+r.Intn(4)
		m, p := memory(t, base, frames), &plain{base, make([]byte, frames*page)}
		for step := range 3000 {
			if r.Intn(50) == 0 { // the copy goes on, its first is turned
				c := m.Copy()
				m.Fill(base, make([]byte, frames*page))
				m = c
			}
			if !turn(r, m, p) {
				t.Fatalf("P3.4: seed %d, step %d: answers differ", seed, step)
			}
			if !bytes.Equal(all(t, m), p.b) {
				t.Fatalf("P3.4: seed %d, step %d: bytes differ", seed, step)
			}
		}
	}
}
