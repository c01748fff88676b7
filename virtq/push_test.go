package virtq_test

import (
	"math"
	"testing"

	"citadel/api"
)

// turned fails if more than so many bytes of the memory are not as they were.
func (p *pair) turned(was []byte, most int) {
	p.t.Helper()
	n := 0
	for i, b := range p.l.all(p.t) {
		if b != was[i] {
			n++
		}
	}
	if n > most {
		p.t.Fatalf("P13.4: %d bytes were turned", n)
	}
}

// gives gives a chain back, and fails if that does not turn just what it must, at most 10 bytes.
func (p *pair) gives(head int, n uint64) {
	p.t.Helper()
	was := p.l.all(p.t)
	at := p.c.used + 4 + 8*uint64(p.c.given%p.c.size)
	if e := p.push(head, n); e != api.OK {
		p.t.Fatalf("P13.3: Push(%d, %#x) = %d", head, n, e)
	}
	p.turned(was, 10)
	for _, x := range []struct {
		at   uint64
		n    int
		want uint64
	}{{at, 4, uint64(uint32(head))}, {at + 4, 4, uint64(uint32(n))}, {p.c.used + 2, 2, uint64(uint16(p.c.given))}} {
		if v, ok := p.l.number(x.at, x.n); !ok || v != x.want {
			p.t.Fatalf("P13.3: at %#x: %#x, not %#x", x.at, v, x.want)
		}
	}
	p.same("P13.3")
}

// P13.3: the number and the index, round the used ring.
func TestPush(t *testing.T) {
	each(t, func(p *pair, size int) {
		for i := range 2*size + 3 {
			p.gives(i%size, uint64(3*i+1))
		}
	})
}

// P13.3: what stood in the used ring does not count: neither its index nor its flags.
func TestPushOver(t *testing.T) {
	each(t, func(p *pair, size int) {
		for i := range uint64(4 + 8*size + 2) {
			p.poke(p.c.used+i, 1, 0xa5)
		}
		for i := range size + 2 {
			p.gives(i%size, 7)
			p.poke(p.c.used+2, 2, uint64(1000+i))
		}
		if v, _ := p.l.number(p.c.used, 2); v != 0xa5a5 {
			t.Errorf("P13.3: the used ring's flags are %#x", v)
		}
	})
}

// P13.3: of heads and lengths four bytes count, and any are taken; nothing is asked of the chains that were taken.
func TestPushAnyNumbers(t *testing.T) {
	heads := []int{0, 1, -1, 63, 64, 65535, 1 << 16, 1<<31 - 1, 1 << 31, 1<<32 - 1, 1 << 32, 1<<32 + 1, 0x123456789abcdef, math.MaxInt, math.MinInt, math.MinInt + 5}
	lengths := []uint64{0, 1, 255, 256, 1 << 31, 1<<32 - 1, 1 << 32, 1<<32 + 5, 0xfedcba9876543210, 1 << 63, ones}
	each(t, func(p *pair, size int) {
		for _, head := range heads {
			for _, n := range lengths {
				p.gives(head, n)
			}
		}
	})
}

// P13.3: the number given back goes on across 2^16.
func TestPushAcross(t *testing.T) {
	for i, size := range sizes {
		p := ready(t, lands[i%len(lands)], size)
		for p.c.given < 1<<16-2 {
			p.push(p.c.given%size, uint64(p.c.given))
		}
		for range size + 4 {
			p.gives(p.c.given%size, uint64(p.c.given))
		}
		if v, _ := p.l.number(p.c.used+2, 2); v != uint64(size+2) {
			t.Errorf("P13.3: the index behind 2^16 is %d", v)
		}
	}
}

// P13.3: what is taken and what is given back are counted each by itself.
func TestPushBesideNext(t *testing.T) {
	each(t, func(p *pair, size int) {
		p.descriptor(0, p.at(dataAt), 1, 0, 0)
		for i := range size + 3 {
			for range i % 3 {
				p.offer(1, 0)
				p.tells(api.Chain{Read: segs(api.Seg{Addr: p.at(dataAt), Len: 1})})
			}
			for range (i + 1) % 3 {
				p.gives(i, 9)
			}
			p.none()
		}
	})
}

// far is how a queue lies whose used ring lies elsewhere.
func far(t *testing.T, kind func(t *testing.T) *land, size int, used func(l *land) uint64) *pair {
	t.Helper()
	p := newPair(t, kind)
	p.setup(size, p.at(descAt), p.at(availAt), used(p.l))
	return p
}

// stops fails if Push is not ErrBound and the queue not dead behind it; the memory is as the chapter's.
func (p *pair) stops(most int) {
	p.t.Helper()
	was := p.l.all(p.t)
	if e := p.push(0x01020304, 0x05060708); e != api.ErrBound || !p.q.Dead() || !p.q.Ready() {
		p.t.Fatalf("P13.3: Push = %d, dead %v", e, p.q.Dead())
	}
	p.same("P13.3")
	p.turned(was, most)
	p.isDead()
}

// P13.3: a used ring that ends within the memory, up to each byte; what lies behind the end is ErrBound, and what was
// written ahead of that stays.
func TestPushAtTheEnd(t *testing.T) {
	for _, kind := range lands {
		for _, size := range sizes {
			for back := uint64(0); back <= uint64(8*size)+12; back += 4 {
				p := far(t, kind, size, func(l *land) uint64 { return l.parts[len(l.parts)-1].to - back })
				n := 0
				for n <= 2*size && p.push(n, 7) == api.OK {
					n++
				}
				p.same("P13.3")
				fit := 0
				if back >= 4 {
					fit = int(back-4) / 8
				}
				if fit >= size && p.q.Dead() || fit < size && (n != fit || !p.q.Dead()) {
					t.Fatalf("P13.3: %d bytes ahead of the end, size %d: %d were given back", back, size, n)
				}
			}
		}
	}
}

// P13.3: each part that lies out of the memory by itself.
func TestPushOutOfBounds(t *testing.T) {
	for _, kind := range lands[1:] {
		for _, x := range []struct {
			name string
			used func(l *land) uint64
			most int
		}{
			{"all", func(l *land) uint64 { return l.home - page - 64 }, 0},
			{"the index alone", func(l *land) uint64 { return l.home - 4 }, 8},
			{"the index and the head", func(l *land) uint64 { return l.home - 8 }, 0},
			{"both numbers", func(l *land) uint64 { return l.parts[len(l.parts)-1].to - 4 }, 0},
			{"the length alone", func(l *land) uint64 { return l.parts[len(l.parts)-1].to - 8 }, 4},
		} {
			for _, size := range sizes {
				t.Run(x.name, func(t *testing.T) { far(t, kind, size, x.used).stops(x.most) })
			}
		}
	}
}

// P13.3: a used ring whose number lies in the memory and whose index does not: the number is written, and it is ErrBound.
func TestPushIndexNowhere(t *testing.T) {
	for _, kind := range lands[1:] {
		p := far(t, kind, 4, func(l *land) uint64 { return l.home - 4 })
		p.stops(8)
		head, ok := p.l.number(p.at(0), 4)
		n, is := p.l.number(p.at(4), 4)
		if !ok || !is || head != 0x01020304 || n != 0x05060708 {
			t.Errorf("P13.3: %#x, %#x were written", head, n)
		}
	}
}

// P13.3: what a Write refuses, though it lies in the memory, is ErrBound likewise.
func TestPushRefused(t *testing.T) {
	const shut, open = 0x80003 * page, 0x80005 * page
	for _, x := range []struct {
		used uint64
		fit  int // how many are given back
		most int
	}{{shut, 0, 0}, {shut + 0x100, 0, 0}, {open - 4, 0, 8}, {open - 8, 0, 4}, {open, 9, 0}, {open - page, 0, 0}} {
		p := far(t, newSpace, 4, func(*land) uint64 { return x.used })
		for range x.fit {
			p.gives(1, 2)
		}
		if x.fit == 0 {
			p.stops(x.most)
		}
	}
}

// P13.3: a Push that did not end well is not counted: behind Reset all begins anew.
func TestPushBehindReset(t *testing.T) {
	p := far(t, lands[1], 2, func(l *land) uint64 { return l.parts[0].to - 12 })
	p.gives(1, 1)
	p.stops(0)
	p.again()
	p.gives(2, 2)
	p.reset()
	p.setup(2, p.at(descAt), p.at(availAt), p.at(usedAt))
	p.gives(3, 3)
	p.gives(4, 4)
	p.gives(5, 5)
}

// P13.3: quiet is the lowest bit of the available ring's flags, and turns nothing.
func TestQuiet(t *testing.T) {
	each(t, func(p *pair, size int) {
		for _, flags := range []uint64{0, 1, 2, 3, 4, 0xfe, 0xff, 0x100, 0x101, 0xfffe, 0xffff, 0x8000, 0x8001} {
			p.poke(p.c.avail, 2, flags)
			was := p.l.all(t)
			for range 2 {
				if got := p.quiet(); got != (flags%2 == 1) {
					t.Fatalf("P13.3: flags %#x: Quiet = %v", flags, got)
				}
			}
			p.turnsNothing(was)
		}
	})
}

// P13.3: where the flags are out of bounds it is not quiet, and not dead of that.
func TestQuietOutOfBounds(t *testing.T) {
	for _, kind := range lands {
		p := newPair(t, kind)
		end := p.l.parts[len(p.l.parts)-1].to
		for at := p.l.home; at < p.l.home+page; at++ {
			p.poke(at, 1, 0xff)
		}
		for at := end - page; at < end; at++ {
			p.poke(at, 1, 0xff)
		}
		for _, x := range []struct {
			at   uint64
			want bool
		}{{end - 4, true}, {end - 2, true}, {end, false}, {end + 2, false}, {p.l.home, true}, {p.l.home - 2, false}, {1<<60 - 2, false}} {
			if x.at >= 1<<60 {
				continue // below 0 there is no place
			}
			p.reset()
			p.setup(2, p.at(descAt), x.at, p.at(usedAt))
			if got := p.quiet(); got != x.want || p.q.Dead() {
				t.Errorf("P13.3: flags at %#x: Quiet = %v, dead %v", x.at, got, p.q.Dead())
			}
		}
	}
}

// P13.3: only a queue that is not ready is never quiet: a dead one stays ready.
func TestQuietOfDead(t *testing.T) {
	each(t, func(p *pair, size int) {
		p.poke(p.c.avail, 2, 1)
		p.ahead(size + 1)
		p.next()
		if !p.quiet() || !p.q.Dead() {
			t.Fatal("P13.3: a dead queue is not quiet, or not dead")
		}
		p.poke(p.c.avail, 2, 0)
		if p.quiet() {
			t.Fatal("P13.3: a dead queue is quiet")
		}
	})
}
