package virtq_test

import (
	"bytes"
	"math"
	"math/rand"
	"reflect"
	"testing"

	"citadel/api"
	"citadel/frame"
	"citadel/ram"
	"citadel/stage"
	"citadel/virtq"
)

const (
	ones = math.MaxUint64
	page = api.PageSize

	more    = 1
	written = 2

	// Where a queue lies from a memory's home on, and pieces for its chains behind it.
	descAt  = 0x100
	availAt = 0x600
	usedAt  = 0x700
	dataAt  = 0xa00
)

// sizes are all sizes that a queue may have.
var sizes = []int{1, 2, 4, 8, 16, 32, 64}

// notSizes are sizes that may not be.
var notSizes = []int{0, -1, -2, -4, -64, -128, 3, 5, 6, 7, 9, 12, 24, 31, 33, 48, 63, 65, 127, 128, 129, 192, 256, 1 << 15, 1 << 16, 1 << 31, 1 << 32, 1<<32 + 1, 1<<32 + 2, 1<<32 + 64, 1 << 62, math.MaxInt, math.MinInt, math.MinInt + 1, math.MinInt + 2, math.MinInt + 64}

// part is a piece of a memory: its bytes, and whether they may be written.
type part struct {
	from, to uint64
	writable bool
}

// land is a memory, and all that it has.
type land struct {
	name  string
	m     virtq.Mem
	host  *ram.RAM // where its bytes lie
	parts []part
	home  uint64 // from there on it has a page that may be written
}

// newRAM is a memory that is a RAM.
func newRAM(t *testing.T, base uint64, frames int) *land {
	t.Helper()
	m, e := ram.New(base, frames)
	if e != api.OK {
		t.Fatalf("no memory from %#x on: %d", base, e)
	}
	return &land{"RAM", m, m, []part{{base, base + uint64(frames)*page, true}}, base}
}

// newSpace is a memory that is a Space: two pages whose frames lie the other way round, a gap, pages that are not
// written, the first page of its home once more, and the last page that may be.
func newSpace(t *testing.T) *land {
	t.Helper()
	host, e := ram.New(api.RamBase, 20)
	if e != api.OK {
		t.Fatal("no memory")
	}
	p, e := frame.New(host, 10, 1)
	if e != api.OK {
		t.Fatal("no pool")
	}
	s, e := stage.New(host, p, 1)
	if e != api.OK {
		t.Fatal("no space")
	}
	l := &land{name: "Space", m: s, host: host, home: 0x80000 * page}
	for _, x := range []api.Page{
		{Page: 0x80000, Frame: 9, Perm: api.PteR | api.PteW},
		{Page: 0x80001, Frame: 8, Perm: api.PteR | api.PteW | api.PteX},
		{Page: 0x80003, Frame: 7, Perm: api.PteR},
		{Page: 0x80004, Frame: 6, Perm: api.PteX},
		{Page: 0x80005, Frame: 5, Perm: api.PteR | api.PteW},
		{Page: 0x80007, Frame: 9, Perm: api.PteR | api.PteW},
		{Page: 1<<27 - 1, Frame: 4, Perm: api.PteR | api.PteW},
	} {
		if e := s.Map(x.Page, x.Frame, x.Perm); e != api.OK {
			t.Fatalf("no page %+v: %d", x, e)
		}
		l.parts = append(l.parts, part{x.Page * page, (x.Page + 1) * page, x.Perm&api.PteW != 0})
	}
	return l
}

// lands are memories of all kinds, each new.
var lands = []func(t *testing.T) *land{
	func(t *testing.T) *land { return newRAM(t, 0, 1) },
	func(t *testing.T) *land { return newRAM(t, api.RamBase, 2) },
	func(t *testing.T) *land { return newRAM(t, 1<<52, 3) },
	newSpace,
}

// part is that of its parts in which an address lies.
func (l *land) part(at uint64) (part, bool) {
	for _, p := range l.parts {
		if at >= p.from && at < p.to {
			return p, true
		}
	}
	return part{}, false
}

// has tells whether all bytes of a piece lie in it.
func (l *land) has(addr, n uint64) bool {
	for n > 0 {
		p, ok := l.part(addr)
		if !ok {
			return false
		}
		if n <= p.to-addr {
			return true
		}
		n -= p.to - addr
		addr = p.to
	}
	return true
}

// number is the number of so many bytes, the lowest first.
func (l *land) number(at uint64, n int) (v uint64, ok bool) {
	for i := range n {
		b, is := l.m.Read(at+uint64(i), 1)
		if _, in := l.part(at + uint64(i)); !in || !is {
			return 0, false
		}
		v += b << (8 * i)
	}
	return v, true
}

// put writes so many bytes, or none, if one of them may not be.
func (l *land) put(at uint64, n int, v uint64) bool {
	for i := range n {
		if p, ok := l.part(at + uint64(i)); !ok || !p.writable {
			return false
		}
	}
	for i := range n {
		l.m.Write(at+uint64(i), 1, v>>(8*i))
	}
	return true
}

// all is all bytes of its host.
func (l *land) all(t *testing.T) []byte {
	t.Helper()
	b, ok := l.host.Bytes(l.host.Base(), l.host.Frames()*page)
	if !ok {
		t.Fatal("no bytes")
	}
	return b
}

// pair is a queue under test and the chapter's, each over a memory of its own with the same bytes.
type pair struct {
	t    *testing.T
	q    *virtq.Queue
	c    *chapter
	l, r *land
}

// newPair is one that is not ready.
func newPair(t *testing.T, kind func(t *testing.T) *land) *pair {
	t.Helper()
	p := &pair{t, virtq.New(), &chapter{}, kind(t), kind(t)}
	p.told()
	return p
}

// ready is one that is ready, at home in its memory.
func ready(t *testing.T, kind func(t *testing.T) *land, size int) *pair {
	t.Helper()
	p := newPair(t, kind)
	p.setup(size, p.at(descAt), p.at(availAt), p.at(usedAt))
	if !p.c.ready {
		t.Fatal("not ready")
	}
	return p
}

// each asks the same of a ready pair of each size over each memory.
func each(t *testing.T, ask func(p *pair, size int)) {
	t.Helper()
	for _, kind := range lands {
		for _, size := range sizes {
			ask(ready(t, kind, size), size)
		}
	}
}

// at is an address from home on.
func (p *pair) at(off uint64) uint64 { return p.l.home + off }

// poke writes a number into both memories, as a guest does, if it lies there.
func (p *pair) poke(at uint64, n int, v uint64) {
	p.l.put(at, n, v)
	p.r.put(at, n, v)
}

// descriptor writes a descriptor.
func (p *pair) descriptor(i int, addr, length, flags, next uint64) {
	at := p.c.desc + 16*uint64(i)
	p.poke(at, 8, addr)
	p.poke(at+8, 4, length)
	p.poke(at+12, 2, flags)
	p.poke(at+14, 2, next)
}

// offer writes the available index, so many ahead of what was taken, and the head of the next chain.
func (p *pair) offer(ahead int, head uint64) {
	p.poke(p.c.avail+4+2*uint64(p.c.taken%p.c.size), 2, head)
	p.ahead(ahead)
}

// ahead writes the available index alone.
func (p *pair) ahead(n int) { p.poke(p.c.avail+2, 2, uint64(p.c.taken+n)) }

// told fails if the two tell not the same of themselves.
func (p *pair) told() {
	p.t.Helper()
	if got := p.q.Ready(); got != p.c.ready {
		p.t.Fatalf("P13.1: Ready = %v", got)
	}
	if got := p.q.Dead(); got != p.c.dead {
		p.t.Fatalf("P13.1: Dead = %v", got)
	}
}

// same fails if the two memories have not the same bytes.
func (p *pair) same(promise string) {
	p.t.Helper()
	p.told()
	if !bytes.Equal(p.l.all(p.t), p.r.all(p.t)) {
		p.t.Fatalf("%s: the memory is not as it must be (%s)", promise, p.l.name)
	}
}

// setup asks both for Setup.
func (p *pair) setup(size int, desc, avail, used uint64) {
	p.t.Helper()
	if got, want := p.q.Setup(size, desc, avail, used), p.c.setup(size, desc, avail, used); got != want {
		p.t.Fatalf("P13.1: Setup(%d, %#x, %#x, %#x) = %d, not %d", size, desc, avail, used, got, want)
	}
	p.told()
}

// reset asks both for Reset.
func (p *pair) reset() {
	p.t.Helper()
	p.q.Reset()
	*p.c = chapter{}
	p.told()
}

// again resets both, and makes them ready as they were.
func (p *pair) again() {
	p.t.Helper()
	c := *p.c
	p.reset()
	p.setup(c.size, c.desc, c.avail, c.used)
}

// isSame tells whether two chains are; nil and an empty list are one.
func isSame(a, b api.Chain) bool {
	same := func(x, y []api.Seg) bool { return len(x) == 0 && len(y) == 0 || reflect.DeepEqual(x, y) }
	return a.Head == b.Head && same(a.Read, b.Read) && same(a.Write, b.Write)
}

// next asks both for the next chain.
func (p *pair) next() (api.Chain, bool, api.Errno) {
	p.t.Helper()
	c, ok, e := p.q.Next(p.l.m)
	want, is, f := p.c.next(p.r)
	if !isSame(c, want) || ok != is || e != f {
		p.t.Fatalf("P13.2: Next = %v, %v, %d, not %v, %v, %d (%s, size %d)", c, ok, e, want, is, f, p.l.name, p.c.size)
	}
	p.told()
	return c, ok, e
}

// push gives a chain back to both.
func (p *pair) push(head int, n uint64) api.Errno {
	p.t.Helper()
	got, want := p.q.Push(p.l.m, head, n), p.c.push(p.r, head, n)
	if got != want {
		p.t.Fatalf("P13.3: Push(%d, %#x) = %d, not %d (%s, size %d)", head, n, got, want, p.l.name, p.c.size)
	}
	p.told()
	return got
}

// quiet asks both whether they are.
func (p *pair) quiet() bool {
	p.t.Helper()
	got, want := p.q.Quiet(p.l.m), p.c.quiet(p.r)
	if got != want {
		p.t.Fatalf("P13.3: Quiet = %v (%s)", got, p.l.name)
	}
	p.told()
	return got
}

// tells fails if Next does not tell that chain.
func (p *pair) tells(want api.Chain) {
	p.t.Helper()
	was := p.l.all(p.t)
	if c, ok, e := p.next(); !ok || e != api.OK || !isSame(c, want) {
		p.t.Fatalf("P13.2: Next = %v, %v, %d, not %v (%s, size %d)", c, ok, e, want, p.l.name, p.c.size)
	}
	p.turnsNothing(was)
}

// none fails if Next tells a chain, or an error.
func (p *pair) none() {
	p.t.Helper()
	was := p.l.all(p.t)
	if c, ok, e := p.next(); ok || e != api.OK || !isSame(c, api.Chain{}) || p.q.Dead() {
		p.t.Fatalf("P13.2: Next = %v, %v, %d (%s, size %d)", c, ok, e, p.l.name, p.c.size)
	}
	p.turnsNothing(was)
}

// fails fails if Next does not answer that error, and the queue is not dead from then on; it is ready again behind it.
func (p *pair) fails(want api.Errno) {
	p.t.Helper()
	was := p.l.all(p.t)
	if c, ok, e := p.next(); ok || e != want || c.Head != 0 || c.Read != nil || c.Write != nil || !p.q.Dead() || !p.q.Ready() {
		p.t.Fatalf("P13.2: Next = %v, %v, %d, not %d (%s, size %d)", c, ok, e, want, p.l.name, p.c.size)
	}
	p.isDead()
	p.turnsNothing(was)
	p.again()
}

// isDead fails if a dead queue does something.
func (p *pair) isDead() {
	p.t.Helper()
	was := p.l.all(p.t)
	c := p.c
	for range 2 {
		if chain, ok, e := p.q.Next(p.l.m); ok || e != api.ErrDead || !isSame(chain, api.Chain{}) {
			p.t.Fatalf("P13.4: a dead queue: Next = %v, %v, %d", chain, ok, e)
		}
		if e := p.q.Push(p.l.m, 1, 2); e != api.ErrDead {
			p.t.Fatalf("P13.4: a dead queue: Push = %d", e)
		}
		if e := p.q.Setup(c.size, c.desc, c.avail, c.used); e != api.ErrArg {
			p.t.Fatalf("P13.4: a dead queue: Setup = %d", e)
		}
		if !p.q.Dead() || !p.q.Ready() {
			p.t.Fatal("P13.4: a dead queue is dead no more, or not ready")
		}
	}
	p.turnsNothing(was)
}

// turnsNothing fails if the memory is not as it was.
func (p *pair) turnsNothing(was []byte) {
	p.t.Helper()
	if !bytes.Equal(was, p.l.all(p.t)) {
		p.t.Fatalf("P13.4: memory was turned (%s)", p.l.name)
	}
}

// some is one of a list, by chance.
func some[T any](r *rand.Rand, list ...T) T { return list[r.Intn(len(list))] }

// segs is a list of pieces.
func segs(list ...api.Seg) []api.Seg { return list }
