package virtq_test

import (
	"math/rand"
	"testing"

	"citadel/api"
	"citadel/virtq"
)

// sound fails if a chain is not as P13.4 says.
func sound(t *testing.T, l *land, size int, c api.Chain) {
	t.Helper()
	if n := len(c.Read) + len(c.Write); n < 1 || n > size {
		t.Fatalf("P13.4: a chain of %d pieces, size %d", n, size)
	}
	if c.Head < 0 || c.Head >= size {
		t.Fatalf("P13.4: the head %d, size %d", c.Head, size)
	}
	for _, s := range append(append([]api.Seg{}, c.Read...), c.Write...) {
		if s.Len < 0 || !l.has(s.Addr, uint64(s.Len)) {
			t.Fatalf("P13.4: a piece out of the memory: %+v", s)
		}
	}
}

// life is a pair that a guest by chance writes for.
type life struct {
	*pair
	r      *rand.Rand
	counts map[string]int
}

// ring is where a part of a queue lies: mostly at home, else round the ends of the memory.
func (l *life) ring(off, align uint64) uint64 {
	if l.r.Intn(10) != 0 {
		return l.at(off)
	}
	p := some(l.r, l.l.parts...)
	at := some(l.r, p.to-uint64(l.r.Intn(40)), p.to-align, p.from-uint64(l.r.Intn(40)), p.from, l.at(uint64(l.r.Intn(page))))
	return at / align * align % (1 << 60)
}

// begins makes it ready anew, or tries.
func (l *life) begins() {
	l.t.Helper()
	l.reset()
	size := some(l.r, sizes...)
	if l.r.Intn(9) == 0 {
		size = some(l.r, notSizes...)
	}
	l.setup(size, l.ring(descAt, 16), l.ring(availAt, 2), l.ring(usedAt, 4))
	if l.c.ready && l.r.Intn(2) == 0 { // most chains are good
		for i := range l.c.size {
			l.descriptor(i, l.at(dataAt), uint64(i), some(l.r, uint64(0), written), 0)
			l.poke(l.c.avail+4+2*uint64(i), 2, uint64(l.r.Intn(l.c.size)))
		}
		l.ahead(0)
	}
}

// lays lays a chain, and has it be the next.
func (l *life) lays() {
	size := l.c.size
	n := 1 + l.r.Intn(size)
	if l.r.Intn(3) == 0 {
		n = size
	}
	order, read := l.r.Perm(size)[:n], l.r.Intn(n+1)
	c := l.chain(order, read)
	l.offer(1+l.r.Intn(size), uint64(c.Head))
	if l.r.Intn(12) == 0 { // it goes round, the written ones alone, if there are some
		last := l.c.desc + 16*uint64(order[n-1])
		if read == n {
			l.poke(last+12, 2, more)
			l.poke(last+14, 2, uint64(some(l.r, order...)))
		} else {
			l.poke(last+12, 2, more|written)
			l.poke(last+14, 2, uint64(some(l.r, order[read:]...)))
		}
	}
}

// spoils turns something of what the guest laid.
func (l *life) spoils() {
	size := l.c.size
	i := uint64(l.r.Intn(size))
	switch l.r.Intn(7) {
	case 0:
		l.poke(l.c.desc+16*i+12, 2, some(l.r, uint64(0), 1, 2, 3, 4, 7, 1<<15, 1<<15|1, uint64(l.r.Intn(1<<16))))
	case 1:
		l.poke(l.c.desc+16*i+14, 2, some(l.r, i, uint64(l.r.Intn(size)), uint64(size), 65535))
	case 2:
		p := some(l.r, l.l.parts...)
		n := some(l.r, uint64(0), 1, 8, 4096, uint64(l.r.Intn(9000)), uint64(l.r.Uint32()))
		l.poke(l.c.desc+16*i, 8, some(l.r, p.from, p.to-n, p.to-n+1, p.from-1, l.r.Uint64()))
		l.poke(l.c.desc+16*i+8, 4, n)
	case 3:
		l.poke(l.c.avail+4+2*i, 2, some(l.r, uint64(size-1), uint64(size), 65535, uint64(l.r.Intn(size))))
	case 4:
		l.ahead(some(l.r, 0, 1, size, size+1, 65535, l.r.Intn(1<<16)))
	case 5:
		l.poke(l.c.avail, 2, uint64(l.r.Intn(4)))
	case 6:
		l.poke(l.at(uint64(l.r.Intn(page))), some(l.r, 1, 2, 4, 8), l.r.Uint64())
	}
}

// takes asks for the next chain, and holds it against P13.4.
func (l *life) takes() {
	l.t.Helper()
	c, ok, e := l.next()
	switch {
	case ok:
		sound(l.t, l.l, l.c.size, c)
		l.counts["a chain"]++
		if len(c.Read)+len(c.Write) == l.c.size {
			l.counts["a chain of size"]++
		}
	case e == api.OK:
		l.counts["no chain"]++
	default:
		l.counts[map[api.Errno]string{api.ErrRing: "ErrRing", api.ErrLoop: "ErrLoop", api.ErrBound: "ErrBound", api.ErrDead: "ErrDead"}[e]]++
	}
}

// gives gives something back.
func (l *life) gives() {
	l.t.Helper()
	was := l.l.all(l.t)
	switch e := l.push(some(l.r, 0, l.r.Intn(64), int(l.r.Uint64())), some(l.r, 0, 12, l.r.Uint64())); e {
	case api.OK:
		l.counts["given back"]++
	case api.ErrBound:
		l.counts["ErrBound of Push"]++
	}
	l.turned(was, 10)
}

// step is one thing that happens.
func (l *life) step() {
	l.t.Helper()
	switch x := l.r.Intn(100); {
	case x < 4 || l.c.dead && x < 40 || !l.c.ready && x < 60:
		l.begins()
	case !l.c.ready || x >= 96:
		l.takes()
		l.gives()
		l.setup(some(l.r, sizes...), l.at(descAt), l.at(availAt), l.at(usedAt))
	case x < 24:
		l.lays()
		l.takes()
	case x < 45:
		l.spoils()
	case x < 75:
		l.takes()
	case x < 92:
		l.gives()
	default:
		if l.quiet() {
			l.counts["quiet"]++
		} else {
			l.counts["not quiet"]++
		}
	}
}

// P13.1 to P13.4: lives of queues are as the chapter says, and Next turns no memory.
func TestLives(t *testing.T) {
	counts := map[string]int{}
	for seed := range int64(500) {
		r := rand.New(rand.NewSource(seed))
		l := &life{newPair(t, lands[seed%int64(len(lands))]), r, counts}
		for range 25 {
			for range 6 {
				l.step()
			}
			l.same("P13.4")
		}
	}
	for _, kind := range []string{"a chain", "a chain of size", "no chain", "ErrRing", "ErrLoop", "ErrBound", "ErrDead", "given back", "ErrBound of Push", "quiet", "not quiet"} {
		if counts[kind] < 150 {
			t.Errorf("only %d times: %s", counts[kind], kind)
		}
	}
}

// P13.4: every call ends, and tells what is sound, over memories that are all noise.
func TestNoise(t *testing.T) {
	for seed := range int64(400) {
		r := rand.New(rand.NewSource(seed))
		p := newPair(t, lands[seed%int64(len(lands))])
		low := seed%3 == 0 // bytes that are mostly small lead further
		for at := p.l.home; at < p.l.home+page; at++ {
			v := uint64(r.Intn(256))
			if low && r.Intn(3) != 0 {
				v = uint64(r.Intn(4))
			}
			p.poke(at, 1, v)
		}
		for range 60 {
			p.reset()
			size := some(r, sizes...)
			p.setup(size, p.at(uint64(r.Intn(page)))&^15, p.at(uint64(r.Intn(page)))&^1, p.at(uint64(r.Intn(page)))&^3)
			p.ahead(1 + r.Intn(size))
			if c, ok, _ := p.next(); ok {
				sound(t, p.l, size, c)
			}
			p.next()
			p.push(int(r.Uint64()), r.Uint64())
			p.quiet()
		}
		p.same("P13.4")
	}
}

// liar is a memory that says something else each time, whatever was written, and counts what it is asked.
type liar struct {
	r             *rand.Rand
	asked, writes int
	had           map[api.Seg]bool
	wide          bool // numbers have more bytes than were asked for
	may           bool // it refuses nothing
}

func (l *liar) says() bool { return l.may || l.r.Intn(40) != 0 }

func (l *liar) Has(addr uint64, n int) bool {
	l.asked++
	ok := l.says()
	if ok {
		l.had[api.Seg{Addr: addr, Len: n}] = true
	}
	return ok
}

func (l *liar) Read(_ uint64, size int) (uint64, bool) {
	l.asked++
	v := some(l.r, 0, 1, 2, 3, 3, 3, 5, l.r.Uint64()>>60, l.r.Uint64())
	if !l.wide {
		v &= ones >> (64 - 8*size)
	}
	return v, l.says()
}

func (l *liar) Write(uint64, int, uint64) bool {
	l.asked++
	l.writes++
	return l.says()
}

// P13.4: every call ends, whatever the memory says: one that says something else at each time it is asked, and one that
// leads on for ever. All pieces that are told the memory said that it had.
func TestLiar(t *testing.T) {
	told := 0
	for seed := range int64(4000) {
		m := &liar{r: rand.New(rand.NewSource(seed)), had: map[api.Seg]bool{}, wide: seed%2 == 0, may: seed%3 == 0}
		q := virtq.New()
		size := sizes[seed%int64(len(sizes))]
		if q.Setup(size, 0x100, 0x200, 0x300) != api.OK {
			t.Fatal("P13.1: Setup")
		}
		for range 20 {
			m.asked, m.had = 0, map[api.Seg]bool{}
			c, ok, e := q.Next(m)
			if m.asked > 2+5*size || m.writes != 0 {
				t.Fatalf("P13.4: Next of size %d asked %d times, wrote %d times", size, m.asked, m.writes)
			}
			if ok != (e == api.OK && len(c.Read)+len(c.Write) > 0) || q.Dead() != (e != api.OK) {
				t.Fatalf("P13.2: %v, %v, %d", c, ok, e)
			}
			if len(c.Read)+len(c.Write) > size || c.Head < 0 || c.Head >= size {
				t.Fatalf("P13.4: %v, size %d", c, size)
			}
			for _, s := range append(append([]api.Seg{}, c.Read...), c.Write...) {
				if s.Len < 0 || s.Len > 0 && !m.had[s] {
					t.Fatalf("P13.4: the memory did not say that it has %+v", s)
				}
			}
			if ok {
				told++
			}
			m.asked = 0
			q.Quiet(m)
			if e := q.Push(m, 1, 2); m.asked > 4 || m.writes > 3 || (e != api.OK) != q.Dead() {
				t.Fatalf("P13.4: Push = %d, asked %d times", e, m.asked)
			}
			m.writes = 0
			if q.Dead() {
				q.Reset()
				q.Setup(size, 0x100, 0x200, 0x300)
			}
		}
	}
	if told < 1000 {
		t.Errorf("only %d chains", told)
	}
}
