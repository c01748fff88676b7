package virtq_test

import (
	"math/rand"
	"testing"

	"citadel/api"
)

// chain lays a chain over descriptors in an order; the first so many are read, the others written. Each has its own
// address and length.
func (p *pair) chain(order []int, read int) api.Chain {
	c := api.Chain{Head: order[0]}
	for i, n := range order {
		s := api.Seg{Addr: p.at(dataAt + 8*uint64(i)), Len: i%8 + 1}
		flags, next := uint64(0), uint64(ones) // behind the last nothing is asked
		if i < len(order)-1 {
			flags, next = more, uint64(order[i+1])
		}
		if i < read {
			c.Read = append(c.Read, s)
		} else {
			flags |= written
			c.Write = append(c.Write, s)
		}
		p.descriptor(n, s.Addr, uint64(s.Len), flags, next)
	}
	return c
}

// upTo is the numbers below n, rising.
func upTo(n int) []int {
	list := make([]int, n)
	for i := range list {
		list[i] = i
	}
	return list
}

// The chapter's example.
func TestExample(t *testing.T) {
	p := newPair(t, lands[0])
	p.setup(2, 0x100, 0x200, 0x300)
	p.poke(0x202, 2, 1)
	p.poke(0x204, 2, 0)
	p.descriptor(0, 0x400, 8, 0, 0)
	p.tells(api.Chain{Read: segs(api.Seg{Addr: 0x400, Len: 8})})
	p.none()
	p.push(0, 5)
	for _, x := range []struct {
		at   uint64
		n    int
		want uint64
	}{{0x304, 4, 0}, {0x308, 4, 5}, {0x302, 2, 1}} {
		if v, ok := p.l.number(x.at, x.n); !ok || v != x.want {
			t.Errorf("P13.3: at %#x: %d", x.at, v)
		}
	}
	p.same("P13.3")
	p.again()
	p.descriptor(0, 0x400, 8, more, 0)
	p.fails(api.ErrLoop)
}

// P13.2: no chain is there while the index is what was taken, however often it is asked.
func TestNextNone(t *testing.T) {
	each(t, func(p *pair, size int) {
		p.chain(upTo(1), 1)
		for range 3 * size {
			p.none()
			p.none()
			p.offer(1, 0)
			p.next()
		}
		p.none()
	})
}

// P13.2: as many as size may wait; one more, and any that is further ahead, is ErrRing.
func TestNextAhead(t *testing.T) {
	each(t, func(p *pair, size int) {
		p.chain(upTo(1), 1)
		for _, taken := range []int{0, 1, size - 1, size, size + 1} {
			for _, n := range []int{1, 2, size / 2, size - 1, size, size + 1, size + 2, 2 * size, 255, 256, 257, 1 << 15, 65535, 65534, 65536 - size, 65535 - size} {
				for p.c.taken < taken {
					p.offer(1, 0)
					p.next()
				}
				p.offer(n, 0)
				switch {
				case n == 0:
					p.none()
				case n > size:
					p.fails(api.ErrRing)
				default:
					p.next()
					p.ahead(n - 1)
				}
				p.again()
			}
		}
	})
}

// P13.2: all that wait are taken, each by its own head, round the ring.
func TestNextHeads(t *testing.T) {
	each(t, func(p *pair, size int) {
		for i := range size {
			p.descriptor(i, p.at(dataAt+uint64(i)), uint64(i), 2*uint64(i%2), uint64(size))
		}
		r := rand.New(rand.NewSource(int64(size)))
		for range 5 {
			n := 1 + r.Intn(size)
			heads := make([]int, n)
			for i := range heads {
				heads[i] = r.Intn(size)
				p.poke(p.c.avail+4+2*uint64((p.c.taken+i)%size), 2, uint64(heads[i]))
			}
			p.ahead(n)
			for _, h := range heads {
				s := segs(api.Seg{Addr: p.at(dataAt + uint64(h)), Len: h})
				if h%2 == 0 {
					p.tells(api.Chain{Head: h, Read: s})
				} else {
					p.tells(api.Chain{Head: h, Write: s})
				}
			}
			p.none()
		}
	})
}

// P13.2: the head is below size.
func TestNextHeadAtEdges(t *testing.T) {
	each(t, func(p *pair, size int) {
		for i := range size {
			p.descriptor(i, p.at(dataAt), 4, 0, 0)
		}
		for _, head := range []int{0, size - 1, size, size + 1, 2 * size, 64, 255, 256, 256 + size - 1, 1 << 15, 1<<15 + size - 1, 65535, 65536 - size} {
			p.offer(1, uint64(head))
			if head < size {
				p.tells(api.Chain{Head: head, Read: segs(api.Seg{Addr: p.at(dataAt), Len: 4})})
			} else {
				p.fails(api.ErrBound)
			}
		}
	})
}

// skip takes so many chains of one piece, one by one, ahead of what a test is about.
func (p *pair) skip(n int) {
	p.t.Helper()
	for range n {
		p.c.taken++
		p.l.m.Write(p.c.avail+2, 2, uint64(p.c.taken))
		if c, ok, e := p.q.Next(p.l.m); !ok || e != api.OK || len(c.Read) != 1 {
			p.t.Fatalf("P13.2: the chain %d: %v, %v, %d", p.c.taken, c, ok, e)
		}
	}
	p.ahead(0)
}

// P13.2: the index and the places in the ring go on across 2^16.
func TestNextAcross(t *testing.T) {
	for i, size := range sizes {
		p := ready(t, lands[i%len(lands)], size)
		for i := range size {
			p.descriptor(i, p.at(dataAt), uint64(i), 0, 0)
			p.poke(p.c.avail+4+2*uint64(i), 2, uint64(i))
		}
		for _, round := range []int{1, 2} {
			p.skip(round<<16 - size - 1 - p.c.taken)
			for range 2*size + 3 {
				p.none()
				p.ahead(1 + p.c.taken%size)
				p.tells(api.Chain{Head: p.c.taken % size, Read: segs(api.Seg{Addr: p.at(dataAt), Len: p.c.taken % size})})
				p.ahead(0)
			}
		}
	}
}

// P13.2: what is too far ahead is so across 2^16 too, from each number taken round there.
func TestNextAheadAcross(t *testing.T) {
	for _, size := range []int{1, 2, 64} {
		for _, taken := range []int{1<<16 - 65, 1<<16 - 64, 1<<16 - 2, 1<<16 - 1, 1 << 16, 1<<16 + 1} {
			for _, n := range []int{size + 1, 65535} {
				p := ready(t, lands[0], size)
				p.descriptor(0, p.at(dataAt), 1, 0, 0)
				p.skip(taken)
				p.none()
				p.ahead(size)
				for range size {
					p.tells(api.Chain{Read: segs(api.Seg{Addr: p.at(dataAt), Len: 1})})
				}
				p.none()
				p.ahead(n)
				p.fails(api.ErrRing)
			}
		}
	}
}

// P13.2: chains of one to size descriptors, in any order, of which any number is read and the others written.
func TestNextChains(t *testing.T) {
	each(t, func(p *pair, size int) {
		r := rand.New(rand.NewSource(int64(size)))
		for n := 1; n <= size; n++ {
			for _, read := range []int{0, 1, n / 2, n - 1, n} {
				want := p.chain(r.Perm(size)[:n], read)
				p.offer(1, uint64(want.Head))
				p.tells(want)
			}
		}
		for _, order := range [][]int{upTo(size), reversed(size)} {
			want := p.chain(order, size/2)
			p.offer(1, uint64(want.Head))
			p.tells(want)
		}
	})
}

// reversed is the numbers below n, falling.
func reversed(n int) []int {
	list := upTo(n)
	for i := range list {
		list[i] = n - 1 - i
	}
	return list
}

// P13.2: a chain that does not end within size descriptors is ErrLoop: one that leads to itself, and one that goes
// round, from each place of it to each.
func TestNextLoops(t *testing.T) {
	each(t, func(p *pair, size int) {
		for _, n := range []int{1, 2, 3, size / 2, size - 1, size} {
			if n < 1 || n > size {
				continue
			}
			for _, flag := range []uint64{0, written} {
				for _, back := range []int{0, n / 2, n - 1} {
					for i := range n {
						p.descriptor(i, p.at(dataAt), 1, more|flag, uint64(i+1))
					}
					p.descriptor(n-1, p.at(dataAt), 1, more|flag, uint64(back))
					p.offer(1, 0)
					p.fails(api.ErrLoop)
				}
			}
		}
	})
}

// P13.2: behind size descriptors an index that is not below size is ErrBound, since that is asked first.
func TestNextBoundAheadOfLoop(t *testing.T) {
	each(t, func(p *pair, size int) {
		for _, next := range []int{size, size + 1, 64, 65535, 1 << 15, 256} {
			for n := 1; n <= size; n++ {
				p.chain(upTo(n), n)
				p.descriptor(n-1, p.at(dataAt), 1, more, uint64(next))
				p.offer(1, 0)
				if next >= size {
					p.fails(api.ErrBound)
				}
			}
		}
		p.chain(upTo(size), size)
		p.descriptor(size-1, p.at(dataAt), 1, more, uint64(size-1))
		p.offer(1, 0)
		p.fails(api.ErrLoop)
	})
}

// P13.2: next counts with flags' bit 0 alone.
func TestNextAtTheLast(t *testing.T) {
	each(t, func(p *pair, size int) {
		for _, next := range []uint64{0, 1, uint64(size - 1), uint64(size), 255, 256, 1 << 15, 65535} {
			for _, flags := range []uint64{0, written} {
				p.descriptor(0, p.at(dataAt), 3, flags, next)
				p.offer(1, 0)
				want := api.Chain{Read: segs(api.Seg{Addr: p.at(dataAt), Len: 3})}
				if flags == written {
					want.Read, want.Write = want.Write, want.Read
				}
				p.tells(want)
			}
		}
	})
}

// P13.2: flags has no bits but 1 and 2.
func TestNextFlags(t *testing.T) {
	for _, kind := range lands {
		p := ready(t, kind, 4)
		for low := range uint64(4) {
			for _, high := range []uint64{0, 4, 8, 0x10, 0x20, 0x40, 0x80, 0x100, 0x200, 0x400, 0x800, 0x1000, 0x2000, 0x4000, 0x8000, 0xfffc, 0xff00} {
				for at := range 3 {
					want := p.chain(upTo(3), 3)
					if low&written != 0 {
						want = p.chain(upTo(3), 0)
					}
					p.poke(p.c.desc+16*uint64(at)+12, 2, low|high)
					p.poke(p.c.desc+16*3+12, 2, low&written)
					p.offer(1, 0)
					_, ok, e := p.next()
					if high != 0 && (ok || e != api.ErrBound) {
						t.Fatalf("P13.2: flags %#x: %v, %d", low|high, ok, e)
					}
					if high == 0 && (!ok || e != api.OK) && at < 2 {
						t.Fatalf("P13.2: flags %#x: %v, %d, not %v", low, ok, e, want)
					}
					p.again()
				}
			}
		}
	}
}

// P13.2: all flags there are, of a chain of one.
func TestNextAllFlags(t *testing.T) {
	p := ready(t, lands[0], 1)
	for flags := range uint64(1 << 16) {
		p.descriptor(0, p.at(dataAt), 1, flags, 0)
		p.offer(1, 0)
		p.next()
		if p.c.dead {
			p.again()
		}
	}
}

// P13.2: a readable descriptor behind a writable one is ErrBound, wherever it stands, and whatever the lengths.
func TestNextReadBehindWrite(t *testing.T) {
	each(t, func(p *pair, size int) {
		for first := range size {
			for second := first + 1; second < size; second++ {
				if size > 8 && first%7 != 0 && second != first+1 {
					continue
				}
				p.chain(upTo(size), size)
				p.poke(p.c.desc+16*uint64(first)+12, 2, more|written)
				for i := first + 1; i < second; i++ {
					p.poke(p.c.desc+16*uint64(i)+12, 2, more|written)
				}
				p.offer(1, 0)
				p.fails(api.ErrBound)
				p.poke(p.c.desc+16*uint64(first)+8, 4, 0)
				p.poke(p.c.desc+16*uint64(second)+8, 4, 0)
				p.fails(api.ErrBound)
			}
		}
	})
}

// P13.2: of length 0 the memory is not asked: it may be anywhere, read and written.
func TestNextLengthNone(t *testing.T) {
	each(t, func(p *pair, size int) {
		for _, addr := range []uint64{0, 1, p.l.home - 1, 1 << 39, 1 << 40, 1 << 52, 1 << 60, 1 << 63, ones, ones - 1} {
			p.descriptor(0, addr, 0, 0, 0)
			p.offer(1, 0)
			p.tells(api.Chain{Read: segs(api.Seg{Addr: addr})})
			p.descriptor(0, addr, 0, written, 0)
			p.offer(1, 0)
			p.tells(api.Chain{Write: segs(api.Seg{Addr: addr})})
		}
		p.chain(upTo(size), 0)
		for i := range size {
			p.poke(p.c.desc+16*uint64(i), 8, ones)
			p.poke(p.c.desc+16*uint64(i)+8, 4, 0)
		}
		p.offer(1, 0)
		if c, _, _ := p.next(); len(c.Write) != size {
			t.Fatalf("P13.2: %d pieces of length 0, not %d", len(c.Write), size)
		}
	})
}

// P13.2: a piece that ends at the memory's end, or begins at its beginning, is in it; a byte more, and it is not.
func TestNextPieceAtEdges(t *testing.T) {
	each(t, func(p *pair, size int) {
		for _, x := range p.l.parts {
			for _, n := range []uint64{1, 2, 8, 100, page - 1, page, page + 1, 2 * page, 2*page + 1, 3 * page, 3*page + 1, 1 << 16, 1 << 31, 1<<32 - 1} {
				for _, addr := range []uint64{x.from, x.from - 1, x.from + 1, x.to - n, x.to - n + 1, x.to - n - 1, x.to - 1, x.to, x.to + 1} {
					for _, flags := range []uint64{0, written} {
						p.descriptor(0, addr, n, flags, 0)
						p.offer(1, 0)
						_, ok, _ := p.next()
						if ok != p.l.has(addr, n) {
							t.Fatalf("P13.2: %#x bytes at %#x: %v", n, addr, ok)
						}
						if !ok {
							p.again()
						}
					}
				}
			}
		}
		last := p.l.parts[len(p.l.parts)-1]
		p.descriptor(0, last.to-8, 8, 0, 0)
		p.offer(1, 0)
		p.tells(api.Chain{Read: segs(api.Seg{Addr: last.to - 8, Len: 8})})
		p.descriptor(0, last.to-8, 9, 0, 0)
		p.offer(1, 0)
		p.fails(api.ErrBound)
	})
}

// P13.2: a piece that goes round 2^64 is not in the memory, though its end is.
func TestNextPieceRound(t *testing.T) {
	for _, kind := range append(lands, func(t *testing.T) *land { return newRAM(t, 0, api.MaxFrames) }) {
		p := ready(t, kind, 2)
		for _, x := range [][2]uint64{{ones, 1}, {ones, 2}, {ones, 4097}, {1<<64 - 16, 16}, {1<<64 - 16, 17}, {1<<64 - 4096, 4096}, {1<<64 - 4096, 8192}, {1<<64 - 1<<31, 1<<32 - 1}, {1<<64 - 1<<31, 1<<31 + 1}, {1 << 63, 1<<32 - 1}} {
			for _, flags := range []uint64{0, written} {
				p.descriptor(0, x[0], x[1], flags, 0)
				p.offer(1, 0)
				p.fails(api.ErrBound)
			}
		}
	}
}

// P13.2: a length's four bytes are a number without sign.
func TestNextLengths(t *testing.T) {
	p := ready(t, func(t *testing.T) *land { return newRAM(t, 0, api.MaxFrames) }, 2)
	for _, n := range []uint64{1, 255, 256, 1 << 16, 1 << 20, api.MaxFrames * page, api.MaxFrames*page + 1, 1 << 31, 1<<31 + 1, 1<<32 - 1, 1<<32 - page} {
		p.descriptor(1, 0, n, 0, 0)
		p.offer(1, 1)
		if n <= api.MaxFrames*page {
			p.tells(api.Chain{Head: 1, Read: segs(api.Seg{Addr: 0, Len: int(n)})})
		} else {
			p.fails(api.ErrBound)
		}
	}
}

// P13.2: the first thing that is wrong tells the error, of what is wrong in two ways.
func TestNextOrder(t *testing.T) {
	each(t, func(p *pair, size int) {
		p.descriptor(0, p.at(dataAt), 1, more, 0)
		p.offer(size+1, uint64(size)) // too far, and a head that is none
		p.fails(api.ErrRing)
		p.offer(0, uint64(size)) // no chain: the head is not looked at
		p.none()
		p.again()
		p.descriptor(0, p.at(dataAt), 1, 4|more, 0) // flags that are none ahead of the loop
		p.offer(1, 0)
		p.fails(api.ErrBound)
		p.descriptor(0, ones, 1, more, 0) // a piece that is nowhere ahead of the loop
		p.fails(api.ErrBound)
		p.descriptor(0, p.at(dataAt), 1, more, uint64(size)) // and a next that is none
		p.fails(api.ErrBound)
		p.descriptor(0, p.at(dataAt), 1, more, 0)
		p.fails(api.ErrLoop)
	})
}

// P13.2: the memory is read anew at each call.
func TestNextReadsAnew(t *testing.T) {
	each(t, func(p *pair, size int) {
		for i := range 3 * size {
			n := i%size + 1
			want := p.chain(upTo(n), n/2)
			p.offer(1, 0)
			p.tells(want)
		}
	})
}

// R3: what is told is new memory: turning it, and its spare room, turns neither its other list nor what is told later.
func TestNextTellsNew(t *testing.T) {
	each(t, func(p *pair, size int) {
		want := p.chain(upTo(size), size/2)
		var kept []api.Chain
		for range 3 {
			p.offer(1, 0)
			c, ok, _ := p.next()
			if !ok {
				t.Fatal("P13.2: no chain")
			}
			kept = append(kept, c)
		}
		bad := api.Seg{Addr: 99, Len: -1}
		spoil := func(list []api.Seg) {
			list = list[:cap(list)]
			for i := range list {
				list[i] = bad
			}
		}
		spoil(kept[0].Read)
		if !isSame(api.Chain{Write: want.Write}, api.Chain{Write: kept[0].Write}) {
			t.Fatal("R3: Read and Write share memory")
		}
		spoil(kept[0].Write)
		for _, c := range kept[1:] {
			if !isSame(c, want) {
				t.Fatal("R3: two answers share memory")
			}
		}
		p.offer(1, 0)
		p.tells(want)
	})
}
