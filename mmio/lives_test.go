package mmio_test

import (
	"math/rand"
	"testing"

	"citadel/api"
	"citadel/hart"
	"citadel/inst"
	"citadel/mmio"
	"citadel/page"
	"citadel/tlb"
)

// life is a scene whose hart lives by chance: tables, instructions and registers are mostly right.
type life struct {
	scene
	r *rand.Rand
	x *tlb.TLB
	c *hart.Core
	// seen is how often what was met.
	seen map[string]int
}

func newLife(t *testing.T, seed int64, seen map[string]int) life {
	t.Helper()
	r := rand.New(rand.NewSource(seed))
	s := newScene(t, bases[r.Intn(len(bases))], r.Intn(4) > 0, r.Intn(4) > 0, r.Intn(3) == 0)
	x, _ := tlb.New([]int{1, 2, 5, api.MaxTLB}[r.Intn(4)])
	l := life{s, r, x, s.core(x), seen}
	for i := uint64(code); i < pages; i++ {
		l.fill(i)
	}
	for i := uint64(data); i < pages; i++ {
		l.spoil(i)
	}
	l.spoil(code + uint64(r.Intn(2)))
	return l
}

func (l life) rare(n int) bool { return l.r.Intn(n) == 0 }

// spoil turns, at times, where a page leads, and what is allowed of it.
func (l life) spoil(i uint64) {
	number := l.m.Base()/size + uint64(l.r.Intn(frames+9))
	if l.rare(4) {
		l.allowFirst(i, l.rights()^1<<l.r.Intn(8))
	} else if l.rare(4) && l.first && !l.second {
		l.own(lower, index(l.va(i), 0), pte(number, l.rights()))
	}
	if l.rare(4) {
		l.allowSecond(i, full^1<<l.r.Intn(8))
	} else if l.rare(4) {
		l.leadSecond(i, pte(number, full))
	}
	if l.first && l.rare(4) {
		l.own(upper, 5, pte(number, api.PteV))
	}
}

// fill fills a page with instructions.
func (l life) fill(i uint64) {
	at := l.pa(i)
	for n := uint64(0); n < size; {
		w, long := l.instruction()
		if n+long > size {
			w, long = 0x4188, 2
		}
		l.set(at+n, int(long), uint64(w))
		n += long
	}
}

// instruction is mostly a load or a store, and how many bytes it has.
func (l life) instruction() (w uint32, long uint64) {
	imm := 8 * (l.r.Intn(9) - 4)
	if l.rare(6) {
		imm = l.r.Intn(4096) - 2048
	}
	switch l.r.Intn(10) {
	case 0, 1, 2:
		return loadOf(l.r.Intn(7), l.r.Intn(32), l.r.Intn(32), imm), 4
	case 3, 4:
		return storeOf(l.r.Intn(4), l.r.Intn(32), l.r.Intn(32), imm), 4
	case 5:
		return l.r.Uint32()&^3 | uint32(l.r.Intn(3)), 2
	case 6:
		return []uint32{0x4000, 0x6000, 0xc000, 0xe000, 0x4002, 0x6002, 0xc002, 0xe002}[l.r.Intn(8)] | l.r.Uint32()&0x1ffc, 2
	case 7:
		return l.r.Uint32() | 3, 4
	}
	if l.rare(6) {
		return []uint32{0x00000073, 0x10500073}[l.r.Intn(2)], 4
	}
	do := []uint32{0, 1, 2, 3, 4, 8, 12, 16, 20, 24, 28}[l.r.Intn(11)]
	w = do<<27 | l.r.Uint32()&0x01ff8f80 | uint32(2+l.r.Intn(2))<<12 | 0x2f
	if do == 2 {
		w &^= 31 << 20
	}
	return w, 4
}

// address is mostly one that the hart has.
func (l life) address() uint64 {
	i, off := uint64(l.r.Intn(pages)), uint64(l.r.Intn(size))
	if !l.rare(8) {
		off &^= 7
	}
	switch {
	case l.rare(6):
		return []uint64{0, ones - 7, 5<<30 | off, l.m.Base() - 8, l.end() - 8, l.end() + off, api.UartBase + off, l.r.Uint64()}[l.r.Intn(8)]
	case !l.first && !l.second && l.rare(3):
		return l.end() + off
	}
	return l.va(i) + off
}

// some is a hart that stands mostly at instructions.
func (l life) some() api.Hart {
	flag := func() bool { return l.rare(2) }
	h := l.hart(l.va(code+uint64(l.r.Intn(pages-code))) + uint64(l.r.Intn(size)))
	h.On, h.Spie, h.Spp, h.Sum, h.Mxr, h.Reserved = flag(), flag(), flag(), flag(), flag(), flag()
	if !l.rare(8) {
		h.Sip = 0
	}
	if l.rare(12) {
		h.PC = l.address()
	}
	h.Stvec, h.Sepc, h.Reservation = l.address(), l.address(), l.gpa(data)
	for i := range h.X {
		h.X[i] = l.address()
	}
	return h
}

// asked is what was said of a hart ahead of its step.
type asked struct {
	w       uint32
	ok      bool // by Fetch
	a       api.Access
	planned bool
	at      uint64 // where the access goes in the memory
	v       uint64 // what stands there
}

// ask asks Fetch and Plan, and where that goes.
func (l life) ask(h api.Hart) asked {
	w, long, ok := mmio.Fetch(l.m, l.root(), h)
	q := asked{w: w, ok: ok}
	q.a, q.planned = mmio.Plan(h, w, long)
	e := api.Env{Satp: h.Satp, Root: l.root(), User: h.User, Sum: h.Sum, Mxr: h.Mxr}
	q.at = page.Translate(l.m, e, q.a.VA, accessOf(q.a)).PA
	q.v, _ = l.m.Read(q.at, q.a.Size)
	return q
}

// accessOf is by what access a load or a store translates.
func accessOf(a api.Access) int {
	if a.Store {
		return api.Store
	}
	return api.Load
}

// P15.4, P15.3: in lives by chance each exit of a load or a store is found again, and none beside; what is done in
// memory is what Plan and Finish make of it.
func TestLives(t *testing.T) {
	seen := map[string]int{}
	for seed := range int64(400) {
		l := newLife(t, seed, seen)
		h := l.some()
		for range 60 {
			q := l.ask(h)
			g, ev := l.c.Step(h, 0)
			l.holds(h, g, ev, q)
			if t.Failed() {
				t.Fatalf("seed %d: %s: %#x at %#x comes to %+v", seed, l.name(), q.w, h.PC, ev)
			}
			h = l.next(g, ev, q.a)
		}
	}
	for _, what := range []string{
		"no fetch", "walk", "atomic", "load", "store", "load done", "store done", "other done", "page fault of a fetch", "trapped", "taken", "called",
	} {
		if seen[what] < 40 {
			t.Errorf("%s: met %d times only", what, seen[what])
		}
	}
}

// next is a hart from which the life goes on. What a step stored may stand in a table: the TLB forgets all.
func (l life) next(h api.Hart, ev api.Event, a api.Access) api.Hart {
	if ev.Wrote {
		l.x.FlushAll()
	}
	switch {
	case l.rare(5) || ev.Kind == api.ExitCall || ev.Kind == api.Trapped && l.rare(2):
		return l.some()
	case ev.Kind != api.ExitFault:
		return h
	case mmio.Match(a, ev):
		return mmio.Finish(h, a, l.r.Uint64())
	}
	return mmio.Refuse(h, ev)
}

// holds holds a step against what was said ahead of it.
func (l life) holds(was, h api.Hart, ev api.Event, q asked) {
	l.t.Helper()
	own := false
	switch ev.Kind {
	case api.ExitFault:
		own = l.exits(ev, q)
	case api.Retired:
		l.done(was, h, q)
	case api.Trapped:
		l.trapped(h, q)
	case api.Taken:
		l.met("taken")
	case api.ExitCall, api.ExitWait:
		l.met("called")
		if !q.ok || q.planned {
			l.t.Errorf("P15.1, P15.2: a call: %v, %v", q.ok, q.planned)
		}
	}
	if q.planned {
		matches(l.t, q.a, ev, own)
	}
}

// met counts what was met.
func (l life) met(what string) { l.seen[what]++ }

// exits holds an exit against what was said, and tells whether the access must match it.
func (l life) exits(ev api.Event, q asked) bool {
	l.t.Helper()
	if q.ok == (ev.Access == api.Fetch) {
		l.t.Errorf("P15.1, P15.4: Fetch: %v", q.ok)
	}
	i, _ := inst.Decode(q.w)
	atomic := i.Kind == api.KindLr || i.Kind == api.KindSc || i.Kind == api.KindAmo
	if q.planned != (ev.Access != api.Fetch && !atomic) {
		l.t.Errorf("P15.4: Plan of the kind %d: %v", i.Kind, q.planned)
	}
	switch {
	case ev.Access == api.Fetch:
		l.met("no fetch")
	case ev.Walk:
		l.met("walk")
	case atomic:
		l.met("atomic")
	case ev.Access == api.Store:
		l.met("store")
	default:
		l.met("load")
	}
	return q.planned && !ev.Walk
}

// trapped holds a trap against what was said: a step that takes the page fault of a fetch has fetched nothing.
func (l life) trapped(h api.Hart, q asked) {
	l.t.Helper()
	l.met("trapped")
	if h.Scause != 12 {
		return
	}
	l.met("page fault of a fetch")
	if q.ok {
		l.t.Error("P15.1: Fetch of what a step does not fetch")
	}
}

// done holds a step that is done against what was said, and against Finish.
func (l life) done(was, h api.Hart, q asked) {
	l.t.Helper()
	if !q.ok {
		l.t.Error("P15.1: no Fetch of what a step has done")
	}
	switch {
	case !q.planned:
		l.met("other done")
		return
	case q.a.Store:
		l.met("store done")
		if is, _ := l.m.Read(q.at, q.a.Size); is != q.a.Value {
			l.t.Errorf("P15.2: a step has stored %#x, not %#x", is, q.a.Value)
		}
		same(l.t, "P15.3", mmio.Finish(was, q.a, l.r.Uint64()), h)
	default:
		l.met("load done")
		same(l.t, "P15.4", mmio.Finish(was, q.a, q.v), h)
	}
}

// wild is a number of one sort or another.
func wild(r *rand.Rand, m uint64) uint64 {
	switch r.Intn(4) {
	case 0:
		return m + uint64(r.Intn(5*size))
	case 1:
		return ones - uint64(r.Intn(9))
	case 2:
		return uint64(r.Intn(20))
	}
	return r.Uint64() >> r.Intn(64)
}

// R1, R2: every call ends, and none panics, whatever stands in the memory and in what is handed in; what there is not
// is zero; harts that are answered are in order.
func TestGarbage(t *testing.T) {
	fetched, planned, tables := 0, 0, 0
	for seed := range int64(100) {
		r := rand.New(rand.NewSource(seed))
		s := newScene(t, bases[r.Intn(len(bases))], seed%2 == 0, seed%4 < 2, r.Intn(2) == 0)
		b := make([]byte, 3*size)
		r.Read(b)
		s.m.Fill(s.m.Base()+uint64(r.Intn(frames-3))*size, b)
		word := func() uint64 { return wild(r, s.m.Base()) }
		number := func() int { return int(word()) }
		flag := func() bool { return r.Intn(2) == 0 }
		for range 300 {
			h := api.Hart{PC: word(), User: flag(), On: flag(), Sum: flag(), Mxr: flag(), Satp: word(), Stvec: word(), Sepc: word(), Sie: word(), Sip: word()}
			if flag() {
				h.Satp, h.User, h.PC = s.satp(), s.user, s.va(uint64(r.Intn(pages)))+uint64(r.Intn(size))
			}
			for i := range h.X {
				h.X[i] = word()
			}
			for _, root := range []uint64{0, s.root(), word(), word() / size} {
				w, long, ok := mmio.Fetch(s.m, root, h)
				if ok != (long == 2 || long == 4) || !ok && (w != 0 || long != 0) {
					t.Fatalf("R2: Fetch = %#x, %d, %v", w, long, ok)
				}
				if ok && root == 0 {
					fetched++
				} else if ok {
					tables++
				}
				a, ok := mmio.Plan(h, []uint32{w, r.Uint32(), uint32(word())}[r.Intn(3)], number())
				if !ok && a != (api.Access{}) {
					t.Fatalf("R2: Plan = %+v, %v", a, ok)
				}
				if ok {
					planned++
				}
			}
			a := api.Access{Store: flag(), Signed: flag(), Size: number(), Reg: number(), Len: number(), VA: word(), Value: word()}
			ev := api.Event{Kind: number(), Access: number(), VA: word(), GPA: word(), Walk: flag(), Wrote: flag()}
			matches(t, a, ev, ev.Kind == api.ExitFault && !ev.Walk && a.VA == ev.VA && ev.Access == accessOf(a))
			v := word()
			same(t, "P15.3", mmio.Finish(h, a, v), finished(h, a, v))
			same(t, "P15.3", mmio.Refuse(h, ev), refused(h, ev))
		}
	}
	if fetched < 1000 || planned < 1000 || tables < 300 {
		t.Errorf("%d fetched, %d by tables, %d planned only", fetched, tables, planned)
	}
}
