package iommu_test

import (
	"bytes"
	"math/rand"
	"testing"

	"citadel/api"
	"citadel/page"
)

// A random world has tables from frame 1 and from frame 4 on; its rings are frames 7 and 8, what its pages are the others.
const (
	frames = 14
	pages  = 6
)

// some is one of a list.
func some[T any](r *rand.Rand, list ...T) T { return list[r.Intn(len(list))] }

// life makes deeds in a world.
type life struct {
	*rand.Rand
	w      world
	talks  int  // out of 100 deeds, how many are Next
	calmly bool // a ring is seldom set anew, so that it gets full
}

// dev is a device, seldom none.
func (l life) dev() int {
	if l.Intn(20) == 0 {
		return some(l.Rand, noDevs...)
	}
	return some(l.Rand, 0, 1, 1, 7)
}

// addr is an address of one of the first pages, seldom another.
func (l life) addr() uint64 {
	a := uint64(l.Intn(pages))*size + some[uint64](l.Rand, 0, 8, 16, 20, 21, 22, 40, size-8, size-4, size-1)
	if l.Intn(25) == 0 {
		a = some(l.Rand, uint64(ones), ones-7, 1<<39, 1<<39+a, a+1<<52, a+1<<21)
	}
	return a
}

// leaf is an entry of a table of level 0.
func (l life) leaf() uint64 {
	e := pte(l.w.frame(some(l.Rand, 0, 9, 10, 11, 12, 13)), full)
	switch l.Intn(8) {
	case 0:
		e &^= api.PteW
	case 1:
		e &^= api.PteD
	case 2:
		e ^= 1 << l.Intn(10)
	case 3:
		e = some(l.Rand, uint64(0), ones, pte(l.w.frame(frames), full), pte(l.w.frame(1), api.PteV), e|1<<60, pte(1<<44-1, full))
	}
	return e
}

// edit is a write into a table, mostly of level 0.
func (l life) edit() deed {
	first := some(l.Rand, 1, 4)
	if l.Intn(15) == 0 {
		level := some(l.Rand, 1, 2)
		e := pte(l.w.frame(first+3-level), api.PteV)
		if l.Intn(2) == 0 {
			e = some(l.Rand, uint64(0), pte(l.w.frame(99), api.PteV), pte(0, full), pte(l.w.frame(first), api.PteV), pte(l.w.frame(3), api.PteV))
		}
		return deed{kind: write, addr: l.w.at(first + 2 - level), n: e}
	}
	return deed{kind: write, addr: l.w.at(first+2) + 8*uint64(l.Intn(pages)), n: l.leaf()}
}

// access is some access.
func (l life) access() deed {
	n := some(l.Rand, 1, 2, 4, 8, 8)
	if l.Intn(20) == 0 {
		n = some(l.Rand, noSizes...)
	}
	return deed{kind: access, dev: l.dev(), addr: l.addr(), size: n, write: l.Intn(2) == 0}
}

// deed is some deed.
func (l life) deed() deed {
	if l.Intn(100) < l.talks {
		return deed{kind: next}
	}
	switch n := l.Intn(100); {
	case n < 60:
		return l.access()
	case n < 68:
		return deed{kind: message, dev: l.dev(), addr: some[uint64](l.Rand, api.MsiBase, api.MsiBase, api.MsiBase, api.MsiBase, ones, 0), n: some(l.Rand, uint64(l.Intn(4)), 31, 32, 1<<32)}
	case n < 73:
		return deed{kind: remap, dev: l.dev(), n: some(l.Rand, uint64(l.Intn(4)), 31, 32, ones), to: api.Msi{Guest: l.Intn(4) - 1, Irq: l.Intn(30) - 2}}
	case n < 79:
		return l.edit()
	case n < 81:
		return deed{kind: write, addr: l.w.at(some(l.Rand, 7, 8)) + 8*uint64(l.Intn(512)), n: l.Uint64()}
	case n < 85:
		return deed{kind: set, dev: l.dev(), n: some(l.Rand, l.w.frame(1), l.w.frame(1), l.w.frame(4), l.w.frame(4), 0, ones, l.w.frame(frames))}
	case n < 86:
		return deed{kind: drop, dev: l.dev()}
	case n < 89:
		return deed{kind: invalidate, dev: l.dev()}
	case n < 92:
		return deed{kind: invalidatePage, dev: l.dev(), n: l.addr() / size}
	case n < 96:
		return deed{kind: evict, i: l.Intn(10) - 2}
	case n < 98:
		return deed{kind: clearFlag}
	case !l.calmly || l.Intn(50) == 0:
		return deed{kind: ring, addr: some(l.Rand, l.w.at(7), l.w.at(7), l.w.at(8), l.w.at(frames), l.w.at(8)+16, ones)}
	}
	return l.access()
}

// begin has the tables lead to their last level, and gives devices tables and a ring.
func (l life) begin() {
	for _, first := range []int{1, 4} {
		for p := range uint64(pages) {
			l.w.lead(first, p*size, 0, l.leaf())
		}
	}
	l.w.ok(l.w.Set(0, l.w.frame(1)))
	l.w.ok(l.w.Set(1, l.w.frame(4)))
	l.w.ok(l.w.Ring(l.w.at(7)))
}

// like fails if an IOMMU is not in all that can be told as the chapter says.
func (w world) like(c *chapter, d deed, got, want answer) {
	w.t.Helper()
	if got != want {
		w.t.Fatalf("P7.1 to P7.5: %+v answers %+v, not %+v", d, got, want)
	}
	if w.Overflow() != c.flag {
		w.t.Fatalf("P7.4: behind %+v Overflow is %v", d, w.Overflow())
	}
	for _, dev := range append([]int{0, 1, 2, 7}, noDevs...) {
		if w.Root(dev) != c.roots[dev] {
			w.t.Fatalf("P7.1: behind %+v Root(%d) = %#x", d, dev, w.Root(dev))
		}
	}
	if w.has("P7.5", c.entries...); w.t.Failed() {
		w.t.Fatalf("behind %+v", d)
	}
	b, _ := c.m.Bytes(c.m.Base(), frames*size)
	if !bytes.Equal(w.all(), b) {
		w.t.Fatalf("P7.4: behind %+v the memory is not as it should be", d)
	}
}

// P7.1 to P7.5: long lives against the chapter read out, behind each deed all that can be told; and P7.6 at each access.
func TestLongLives(t *testing.T) {
	var done, came [kinds]int
	var blocked [api.BlockMsi + 1]int
	lost := 0
	for seed := range int64(24) {
		r := rand.New(rand.NewSource(seed))
		room := some(r, 1, 2, 3, 5, api.MaxTLB)
		w := newWorld(t, some(r, bases...), frames, room)
		l := life{r, w, some(r, 0, 2, 8, 30), seed%3 != 0}
		l.begin()
		c := newChapter(w.m, room)
		for _, d := range []deed{{kind: set, n: w.frame(1)}, {kind: set, dev: 1, n: w.frame(4)}, {kind: ring, addr: w.at(7)}} {
			c.do(d)
		}
		for range 1200 {
			d := l.deed()
			var got answer
			if d.kind == access {
				got = w.watched(d)
			} else {
				got = w.do(d)
			}
			waits := len(c.waits)
			want := c.do(d)
			w.like(c, d, got, want)
			done[d.kind]++
			if got.ok {
				came[d.kind]++
			}
			if len(c.waits) > waits {
				kind, _ := c.m.Read(c.waits[waits]+4, 4)
				blocked[kind]++
			}
			if c.flag && len(c.waits) == api.RingSize-1 {
				lost++
			}
		}
	}
	for kind, n := range done {
		if n < 100 {
			t.Errorf("deeds of kind %d: %d", kind, n)
		}
	}
	for _, kind := range []int{access, message, next, evict} {
		if came[kind] < 100 {
			t.Errorf("deeds of kind %d that came to something: %d", kind, came[kind])
		}
	}
	for kind, n := range blocked[1:] {
		if n < 100 {
			t.Errorf("blocked of kind %d: %d", kind+1, n)
		}
	}
	if lost < 1000 {
		t.Errorf("full rings: %d", lost)
	}
}

// watched does an access, and holds what P7.6 says of it: it comes to a place that the table or an entry of the TLB
// tells, and lies in the memory; or it turns at most one record of the ring.
func (w world) watched(d deed) answer {
	w.t.Helper()
	was, held := w.all(), w.Entries()
	asks := api.Load
	if d.write {
		asks = api.Store
	}
	pa, _, fault := page.Guest(w.m, w.Root(d.dev), d.addr, asks)
	a := w.do(d)
	now := w.all()
	if !a.ok {
		first := 0
		for first < len(was) && was[first] == now[first] {
			first++
		}
		if first < len(was) {
			first -= first % 16
			copy(was[first:first+16], now[first:first+16])
		}
	}
	if !bytes.Equal(was, now) {
		w.t.Fatalf("P7.6: %+v turns more than a record", d)
	}
	if !a.ok {
		return a
	}
	told := fault == api.FaultNone && a.place == pa
	for _, e := range held {
		told = told || e.Vmid == d.dev && e.Page == d.addr/size && a.place == e.Frame*size+d.addr%size
	}
	if w.Root(d.dev) == 0 || !told || !w.m.Has(a.place, d.size) {
		w.t.Fatalf("P7.6: %+v comes to %#x, which nobody tells", d, a.place)
	}
	return a
}
