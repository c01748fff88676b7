package pci_test

import (
	"math/rand"
	"testing"

	"citadel/api"
)

// P12.4: a base that is written with all ones reads as 0xfffff000, whose lowest bit is the size, by each size of a
// write, from each base.
func TestBaseTellsSize(t *testing.T) {
	for _, from := range append([]uint64{0}, bases...) {
		for _, size := range sizes {
			for _, bits := range []uint64{0, answers, 4, 6} {
				b := made(t, 2, 3)
				b.Write(1, base, 4, from)
				b.Write(1, command, 2, bits)
				for off := uint64(base); off < base+4; off += uint64(size) {
					b.Write(1, off, size, ones)
				}
				reads(t, "P12.4", b, 1, base, 4, 0xfffff000)
				v, _ := b.Read(1, base, 4)
				if got := ^uint32(v) + 1; got != api.PageSize {
					t.Errorf("P12.4: the size is %d", got)
				}
				b.Write(1, base, 4, from)
				reads(t, "P12.4", b, 1, base, 4, from)
			}
		}
	}
}

// steps goes through a slot's list of capabilities as a guest does, and tells their offsets.
func steps(t *testing.T, p *pair, n int) (list []uint64) {
	t.Helper()
	status, _ := p.b.Read(n, 0x06, 2)
	if status/16%2 != 1 {
		t.Fatal("P12.4: the slot tells of no list")
	}
	at, ok := p.b.Read(n, 0x34, 1)
	for at != 0 {
		list = append(list, at)
		if len(list) > 64 || !ok {
			t.Fatalf("P12.4: the list does not end: %#x", list)
		}
		at, ok = p.b.Read(n, at+1, 1)
	}
	return list
}

// P12.4: the list of capabilities begins at 0x34's offset and ends in two steps, whatever is written.
func TestListOfCapabilities(t *testing.T) {
	for _, kind := range []int{0, 1, 2, 3, 8, 64, 255} {
		p := newPair(t, 9, kind)
		for _, v := range []uint64{0, ones, 0, 0x40} {
			list := steps(t, p, 1)
			if len(list) != 2 || list[0] != 0x40 || list[1] != 0x50 {
				t.Fatalf("P12.4: the list is %#x", list)
			}
			for i, at := range list {
				reads(t, "P12.4", p.b, 1, at, 1, 0x09)
				reads(t, "P12.4", p.b, 1, at+2, 1, 0x10)
				reads(t, "P12.4", p.b, 1, at+3, 1, uint64(i+1))
			}
			for off := range uint64(256) {
				p.write(1, off, 1, v)
			}
		}
	}
}

// P12.1 to P12.4: lives of buses are as the chapter says.
func TestLives(t *testing.T) {
	counts := map[string]int{}
	for seed := range int64(250) {
		r := rand.New(rand.NewSource(seed))
		kinds := make([]int, r.Intn(api.MaxDevs+1))
		for i := range kinds {
			kinds[i] = r.Intn(256)
		}
		p := newPair(t, kinds...)
		for range 250 {
			n := r.Intn(len(kinds)+2) - 1
			switch x := r.Intn(100); {
			case x < 30:
				off := some(r, uint64(command), command+1, base, base+1, base+2, base+3, line, line+1)
				p.write(n, off, some(r, sizes...), some(r, append(values, r.Uint64())...))
			case x < 40:
				p.write(n, command, 2, some(r, uint64(0), 2, 4, 6))
			case x < 50:
				p.write(n, base, 4, some(r, bases...)|uint64(r.Intn(page)))
			case x < 65:
				p.write(n, uint64(r.Intn(260)), some(r, sizes...), r.Uint64())
			case x < 75:
				p.write(some(r, notSlots(len(kinds))...), uint64(r.Intn(260)), some(r, sizes...), r.Uint64())
			case x < 80:
				off, size := some(r, some(r, notOffsets...), uint64(r.Intn(256))), some(r, some(r, notSizes...), some(r, sizes...))
				p.write(n, off, size, r.Uint64())
				p.read(n, off, size)
			case x < 90:
				p.read(n, uint64(r.Intn(260)), some(r, sizes...))
			default:
				addr := some(r, bases...) + uint64(r.Intn(page+2)) - 1
				p.find(addr)
				if _, _, ok := p.c.find(addr); ok {
					counts["found"]++
				} else {
					counts["lost"]++
				}
			}
			p.bar(n)
		}
		p.same()
	}
	for _, kind := range []string{"found", "lost"} {
		if counts[kind] < 300 {
			t.Errorf("only %d times: %s", counts[kind], kind)
		}
	}
}
