package pci_test

import (
	"testing"

	"citadel/api"
)

// bases are bases that may be, at both ends and between.
var bases = []uint64{0x1000, 0x2000, 0x8000, 0x10000000, 0x40000000, 0x40001000, 0x7ffff000, 0x80000000, 0xffffe000, 0xfffff000}

// P12.3: Bar tells the base, and true only if the command's bit 1 is 1 and the base is not 0.
func TestBar(t *testing.T) {
	for _, n := range []int{0, 1, 7} {
		for _, at := range append([]uint64{0}, bases...) {
			b := made(t, 1, 2, 3, 4, 5, 6, 7, 8)
			bars(t, b, n, 0, false)
			for bits := range uint64(8) {
				b.Write(n, base, 4, at|0xfff)
				b.Write(n, command, 2, bits)
				bars(t, b, n, at, bits/2%2 == 1 && at != 0)
				for other := range b.Slots() {
					if other != n {
						bars(t, b, other, 0, false)
					}
				}
			}
		}
	}
}

// P12.3: Bar follows each write; of no slot it is 0 and false.
func TestBarFollows(t *testing.T) {
	b := made(t, 2, 3)
	b.Write(1, command, 1, answers)
	bars(t, b, 1, 0, false)
	b.Write(1, base+1, 1, 0x10)
	bars(t, b, 1, 0x1000, true)
	b.Write(1, base+1, 1, 0)
	bars(t, b, 1, 0, false)
	b.Write(1, base+3, 1, 0x80)
	bars(t, b, 1, 0x80000000, true)
	b.Write(1, command, 2, 4)
	bars(t, b, 1, 0x80000000, false)
	b.Write(1, command+1, 1, answers)
	bars(t, b, 1, 0x80000000, false)
	b.Write(1, command, 4, answers)
	bars(t, b, 1, 0x80000000, true)
	for _, n := range notSlots(2) {
		bars(t, b, n, 0, false)
	}
}

// P12.3: Find tells a slot from its base on to its last byte, and neither below nor behind.
func TestFindEdges(t *testing.T) {
	for n := range api.MaxDevs {
		for _, at := range bases {
			b := made(t, 1, 2, 3, 4, 5, 6, 7, 8)
			lost(t, b, at)
			b.Write(n, base, 4, at)
			lost(t, b, at)
			b.Write(n, command, 2, answers)
			for _, off := range []uint64{0, 1, 2, 3, 4, 7, 8, 0x100, 0x7ff, 0x800, 0xffe, 0xfff} {
				finds(t, b, at+off, n, off)
			}
			for _, addr := range []uint64{at - 1, at - page, at + page, at + page + 1, at + 2*page, at + 1<<32, at | 1<<63, at - 1<<32, 0, ones, ones - 0xfff, ^at} {
				lost(t, b, addr)
			}
			b.Write(n, command, 2, 4)
			lost(t, b, at)
			lost(t, b, at+page-1)
		}
	}
}

// P12.3: a base of 0 is nowhere, whatever the command says.
func TestFindNoBase(t *testing.T) {
	for _, bits := range []uint64{answers, 6, ones} {
		b := made(t, 2, 3)
		b.Write(0, command, 2, bits)
		b.Write(0, base, 4, 0xfff)
		for _, addr := range []uint64{0, 1, 8, page - 1, page, ones, ones - page + 1} {
			lost(t, b, addr)
		}
		b.Write(1, command, 2, bits)
		b.Write(1, base, 4, page)
		lost(t, b, page-1)
		finds(t, b, page, 1, 0)
	}
}

// P12.3: of slots at the same base the lowest one that answers is told.
func TestFindLowest(t *testing.T) {
	for bits := range uint64(256) {
		b := made(t, 8, 7, 6, 5, 4, 3, 2, 1)
		lowest := -1
		for n := range b.Slots() {
			b.Write(n, base, 4, 0x40001000)
			if bits>>n%2 == 0 {
				b.Write(n, command, 2, 4)
				continue
			}
			b.Write(n, command, 2, answers)
			if lowest < 0 {
				lowest = n
			}
		}
		for _, off := range []uint64{0, 8, 0xfff} {
			if lowest < 0 {
				lost(t, b, 0x40001000+off)
				continue
			}
			finds(t, b, 0x40001000+off, lowest, off)
		}
		lost(t, b, 0x40000fff)
		lost(t, b, 0x40002000)
	}
}

// P12.3: slots side by side, the higher one first, are told apart to the byte; a slot without the bit hides none.
func TestFindSideBySide(t *testing.T) {
	b := made(t, 2, 3, 1)
	for n, at := range []uint64{0x40002000, 0x40001000, 0x40002000} {
		b.Write(n, base, 4, at)
		b.Write(n, command, 2, answers)
	}
	lost(t, b, 0x40000fff)
	finds(t, b, 0x40001000, 1, 0)
	finds(t, b, 0x40001fff, 1, 0xfff)
	finds(t, b, 0x40002000, 0, 0)
	finds(t, b, 0x40002fff, 0, 0xfff)
	lost(t, b, 0x40003000)
	b.Write(0, command, 1, 0)
	finds(t, b, 0x40002000, 2, 0)
	finds(t, b, 0x40002fff, 2, 0xfff)
	b.Write(2, base, 4, 0x40001000)
	finds(t, b, 0x40001000, 1, 0)
	lost(t, b, 0x40002000)
}

// P12.3: Bar and Find turn nothing.
func TestAskingTurnsNothing(t *testing.T) {
	p := newPair(t, 2, 3)
	p.on(1, 0x40001000)
	for range 3 {
		for _, addr := range append([]uint64{0, ones, 0x40001008}, bases...) {
			p.find(addr)
		}
		for n := -1; n <= 2; n++ {
			p.bar(n)
			p.b.Kind(n)
		}
		p.b.Slots()
		p.same()
	}
}
