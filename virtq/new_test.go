package virtq_test

import (
	"testing"

	"citadel/api"
	"citadel/ram"
	"citadel/stage"
	"citadel/virtq"
)

// A RAM and a Space are memories.
var (
	_ virtq.Mem = (*ram.RAM)(nil)
	_ virtq.Mem = (*stage.Space)(nil)
)

// unready fails if a queue is not as New; Next, Push and Quiet turn nothing, and do not make it dead.
func unready(t *testing.T, q *virtq.Queue, l *land) {
	t.Helper()
	was := l.all(t)
	for range 2 {
		if q.Ready() || q.Dead() {
			t.Fatalf("P13.1: ready %v, dead %v", q.Ready(), q.Dead())
		}
		if c, ok, e := q.Next(l.m); ok || e != api.ErrRing || !isSame(c, api.Chain{}) {
			t.Fatalf("P13.2: not ready: Next = %v, %v, %d", c, ok, e)
		}
		for _, head := range []int{0, 1, -1, 1 << 40} {
			if e := q.Push(l.m, head, ones); e != api.ErrRing {
				t.Fatalf("P13.3: not ready: Push = %d", e)
			}
		}
		if q.Quiet(l.m) {
			t.Fatal("P13.3: not ready: Quiet")
		}
	}
	if string(was) != string(l.all(t)) {
		t.Fatal("P13.4: a queue that is not ready turns memory")
	}
}

// full is a memory all of whose bytes are 1, so that it is quiet wherever it is asked.
func full(t *testing.T) *land {
	t.Helper()
	l := newRAM(t, 0, 1)
	for at := uint64(0); at < page; at++ {
		l.put(at, 1, 1)
	}
	return l
}

// P13.1: New is neither ready nor dead.
func TestNew(t *testing.T) {
	unready(t, virtq.New(), newRAM(t, 0, 1))
	unready(t, virtq.New(), full(t))
	unready(t, virtq.New(), newSpace(t))
}

// P13.1: each size that may be is taken, and is the size from then on.
func TestSetupSizes(t *testing.T) {
	if sizes[len(sizes)-1] != api.MaxQueue {
		t.Fatal("MaxQueue is another")
	}
	for _, kind := range lands {
		for _, size := range sizes {
			p := ready(t, kind, size)
			p.descriptor(size-1, p.at(dataAt), 1, 0, 0)
			for i := range 3 * size {
				p.offer(1, uint64(size-1))
				p.tells(api.Chain{Head: size - 1, Read: segs(api.Seg{Addr: p.at(dataAt), Len: 1})})
				p.push(size-1, uint64(i))
			}
			p.offer(1, uint64(size))
			p.fails(api.ErrBound)
			p.offer(size+1, 0)
			p.fails(api.ErrRing)
			p.same("P13.1")
		}
	}
}

// P13.1: no other size is; the queue stays as it was.
func TestSetupNotSizes(t *testing.T) {
	for _, size := range notSizes {
		p := newPair(t, lands[0])
		if e := p.q.Setup(size, 0x100, 0x200, 0x300); e != api.ErrArg {
			t.Errorf("P13.1: Setup of size %d = %d", size, e)
		}
		unready(t, p.q, full(t))
		p.setup(size, 0, 0, 0)
		p.setup(size, 1, 1, 1)
	}
	for size := -300; size <= 300; size++ {
		newPair(t, lands[0]).setup(size, 0x100, 0x200, 0x300)
	}
}

// places are addresses round what may be.
func places() []uint64 {
	list := []uint64{}
	for _, from := range []uint64{0, 0x100, 1 << 32, 1<<60 - 16, 1 << 60, 1<<60 + 16, 1 << 61, 1 << 63, 1<<63 - 16, 1<<63 + 16, 1<<64 - 16, 1<<64 - 32} {
		for i := range uint64(16) {
			list = append(list, from+i)
		}
	}
	return list
}

// P13.1: desc is a multiple of 16, avail of 2, used of 4, each below 2^60.
func TestSetupPlaces(t *testing.T) {
	taken := 0
	for _, at := range places() {
		for which := range 3 {
			x := [3]uint64{0x100, 0x200, 0x300}
			x[which] = at
			p := newPair(t, lands[0])
			p.setup(4, x[0], x[1], x[2])
			low := at < 1<<60
			if want := low && at%[3]uint64{16, 2, 4}[which] == 0; p.q.Ready() != want {
				t.Errorf("P13.1: Setup(4, %#x, %#x, %#x): ready %v", x[0], x[1], x[2], !want)
			}
			if p.q.Ready() {
				taken++
				continue
			}
			unready(t, p.q, full(t))
			p.setup(4, 0x100, 0x200, 0x300)
			if !p.q.Ready() {
				t.Error("P13.1: not ready behind a refused Setup")
			}
		}
	}
	if want := 4 * (1 + 8 + 4); taken != want {
		t.Errorf("P13.1: %d were taken, not %d", taken, want)
	}
}

// P13.1: what is wrong in more than one way is refused, and so is what is wrong of a queue that is ready.
func TestSetupAllWrong(t *testing.T) {
	for _, was := range []bool{false, true} {
		for _, size := range []int{-1, 0, 1, 2, 3, api.MaxQueue, 2 * api.MaxQueue} {
			for _, desc := range []uint64{0, 8, 1<<60 - 16, 1 << 60, 1<<64 - 16} {
				for _, avail := range []uint64{0, 1, 1<<60 - 16, 1<<60 - 2, 1 << 60, 1<<64 - 16} {
					for _, used := range []uint64{0, 2, 1<<60 - 16, 1<<60 - 4, 1 << 60, 1<<64 - 16} {
						p := newPair(t, lands[0])
						if was {
							p.setup(1, 0x100, 0x200, 0x300)
						}
						p.setup(size, desc, avail, used)
					}
				}
			}
		}
	}
}

// P13.1: parts may lie anywhere, in one another too, and out of the memory.
func TestSetupAnywhere(t *testing.T) {
	for _, size := range sizes {
		p := newPair(t, lands[0])
		p.setup(size, 0, 0, 0)
		p.next()
		p.push(1, 2)
		p.quiet()
		p.same("P13.3")
		q := newPair(t, lands[0])
		q.setup(size, 1<<60-16, 1<<60-2, 1<<60-4)
		if q.quiet() {
			t.Error("P13.3: quiet where nothing is")
		}
		q.fails(api.ErrBound)
		if q.push(0, 0) != api.ErrBound {
			t.Error("P13.3: Push where nothing is")
		}
		q.isDead()
	}
}

// P13.1: a queue that is ready is set up no more, and goes on as it was.
func TestSetupOfReady(t *testing.T) {
	each(t, func(p *pair, size int) {
		p.descriptor(0, p.at(dataAt), 1, 0, 0)
		p.offer(1, 0)
		p.next()
		p.push(0, 1)
		for _, other := range append(sizes, notSizes...) {
			p.setup(other, p.at(0), p.at(0x10), p.at(0x20))
			p.setup(other, p.c.desc, p.c.avail, p.c.used)
		}
		p.none()
		p.offer(1, 0)
		p.tells(api.Chain{Read: segs(api.Seg{Addr: p.at(dataAt), Len: 1})})
		p.push(0, 2)
		p.same("P13.1")
	})
}

// P13.1: a dead queue stays ready, and is set up behind Reset alone.
func TestSetupOfDead(t *testing.T) {
	each(t, func(p *pair, size int) {
		p.ahead(size + 1)
		if _, _, e := p.next(); e != api.ErrRing || !p.q.Ready() || !p.q.Dead() {
			t.Fatal("P13.1: not dead, or not ready")
		}
		p.isDead()
		p.setup(1, 0, 0, 0)
		p.setup(size, p.c.desc, p.c.avail, p.c.used)
		c := *p.c
		p.reset()
		unready(t, p.q, p.l)
		p.setup(c.size, c.desc, c.avail, c.used)
		if p.q.Dead() || !p.q.Ready() {
			t.Fatal("P13.1: dead behind Reset and Setup")
		}
		p.fails(api.ErrRing)
		p.ahead(0)
		p.none()
	})
}

// P13.1: Reset forgets what was taken, what was given back and where all lay; of a queue that is not ready nothing comes.
func TestReset(t *testing.T) {
	each(t, func(p *pair, size int) {
		p.descriptor(0, p.at(dataAt), 1, 0, 0)
		for range size + 1 {
			p.offer(1, 0)
			p.next()
			p.push(0, 7)
		}
		c := *p.c
		p.reset()
		unready(t, p.q, p.l)
		p.reset()
		unready(t, p.q, p.l)
		p.setup(c.size, c.desc, c.avail, c.used)
		p.ahead(0)
		p.none()
		p.offer(1, 0)
		p.tells(api.Chain{Read: segs(api.Seg{Addr: p.at(dataAt), Len: 1})})
		p.push(3, 9)
		if v, _ := p.l.number(c.used+2, 2); v != 1 {
			t.Errorf("P13.1: given back behind Reset: %d", v)
		}
		if v, _ := p.l.number(c.used+4, 4); v != 3 {
			t.Errorf("P13.1: the first behind Reset: %d", v)
		}
		p.same("P13.1")
		p.reset()
		p.setup(1, p.at(0x800), p.at(0x900), p.at(0x910))
		p.descriptor(0, p.at(dataAt), 2, written, 0)
		p.offer(1, 0)
		p.tells(api.Chain{Write: segs(api.Seg{Addr: p.at(dataAt), Len: 2})})
	})
}

// R4: two queues have nothing in common, over one memory too.
func TestTwoQueues(t *testing.T) {
	for _, kind := range lands {
		a, b := ready(t, kind, 2), ready(t, kind, 4)
		b.l, b.r = a.l, a.r
		a.descriptor(0, a.at(dataAt), 1, 0, 0)
		a.offer(2, 0)
		a.poke(a.c.avail+6, 2, 0)
		want := api.Chain{Read: segs(api.Seg{Addr: a.at(dataAt), Len: 1})}
		a.tells(want)
		b.tells(want)
		a.push(0, 1)
		b.push(0, 2)
		b.push(0, 3)
		a.same("R4")
		a.tells(want)
		a.ahead(9)
		a.fails(api.ErrRing)
		b.ahead(0)
		b.none()
		a.reset()
		b.told()
		b.offer(1, 0)
		b.tells(want)
		unready(t, a.q, a.l)
	}
}
