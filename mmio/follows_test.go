package mmio_test

import (
	"fmt"
	"testing"

	"citadel/api"
	"citadel/hart"
	"citadel/mmio"
	"citadel/page"
	"citadel/ram"
	"citadel/tlb"
)

// vmid is that of a scene's second stage.
const vmid = 3

// form is a load into X[10], or a store of it, as it stands in the memory: so far from where X[11] and X[2] point.
type form struct {
	bits   uint64
	long   int
	off    uint64
	access api.Access // but for VA and Value
}

// forms are all loads and stores, compressed ones too.
func forms() []form {
	var list []form
	for f3, x := range loads {
		for _, imm := range []int{0, 8, -8} {
			a := api.Access{Size: x.size, Signed: x.signed, Reg: 10, Len: 4}
			list = append(list, form{uint64(loadOf(f3, 10, 11, imm)), 4, uint64(imm), a})
		}
		list = append(list, form{uint64(loadOf(f3, 0, 11, 0)), 4, 0, api.Access{Size: x.size, Signed: x.signed, Len: 4}})
	}
	for f3, size := range stores {
		for _, imm := range []int{0, 8, -8} {
			list = append(list, form{uint64(storeOf(f3, 11, 10, imm)), 4, uint64(imm), api.Access{Store: true, Size: size, Len: 4}})
		}
	}
	for _, x := range []struct {
		plain, far uint64
		access     api.Access
	}{
		{0x4188, 0x4588, api.Access{Size: 4, Signed: true, Reg: 10, Len: 2}}, // c.lw
		{0x6188, 0x6588, api.Access{Size: 8, Signed: true, Reg: 10, Len: 2}}, // c.ld
		{0x4502, 0x4522, api.Access{Size: 4, Signed: true, Reg: 10, Len: 2}}, // c.lwsp
		{0x6502, 0x6522, api.Access{Size: 8, Signed: true, Reg: 10, Len: 2}}, // c.ldsp
		{0xc188, 0xc588, api.Access{Store: true, Size: 4, Len: 2}},           // c.sw
		{0xe188, 0xe588, api.Access{Store: true, Size: 8, Len: 2}},           // c.sd
		{0xc02a, 0xc42a, api.Access{Store: true, Size: 4, Len: 2}},           // c.swsp
		{0xe02a, 0xe42a, api.Access{Store: true, Size: 8, Len: 2}},           // c.sdsp
	} {
		list = append(list, form{x.plain, 2, 0, x.access}, form{x.far, 2, 8, x.access})
	}
	return list
}

// asked is by what access a form comes to a fault.
func (f form) asked() int {
	if f.access.Store {
		return api.Store
	}
	return api.Load
}

// planned is what Plan must answer of a form for a hart.
func (f form) planned(h api.Hart) api.Access {
	a := f.access
	a.VA = h.X[11] + f.off
	if a.Store {
		a.Value = low(h.X[10], a.Size)
	}
	return a
}

// quiet is the scene's hart at an address, without an interrupt that waits, which points somewhere.
func (s scene) quiet(pc, to uint64) api.Hart {
	h := s.hart(pc)
	h.Sip, h.Mxr = 0, false
	h.X[2], h.X[11] = to, to
	return h
}

// lays writes an instruction at a place of the page code, over its end into the page after, and answers the hart that
// stands there and points at a place of the page gone.
func (s scene) lays(bits uint64, long int, place uint64) api.Hart {
	s.t.Helper()
	s.set(s.pa(code)+place, 2, bits&0xffff)
	if long == 4 && place+2 == size {
		s.set(s.pa(after), 2, bits>>16)
	} else if long == 4 {
		s.set(s.pa(code)+place+2, 2, bits>>16)
	}
	to := s.va(gone)
	if !s.first && !s.second {
		to = s.end()
	}
	return s.quiet(s.va(code)+place, to+0x40)
}

// leads says which frame the page gone has, as far as there are tables that say it.
func (s scene) leads(number uint64) {
	s.t.Helper()
	if s.second {
		s.leadSecond(gone, pte(number, full))
	} else if s.first {
		s.own(lower, index(s.va(gone), 0), pte(number, s.rights()))
	}
}

// losers are ways by which the page gone comes to an exit for an access.
func (s scene) losers(asked int) []func() {
	list := []func(){func() { s.leads(s.end() / size) }}
	if !s.second {
		return list
	}
	less := uint64(full &^ api.PteR &^ api.PteW)
	if asked == api.Store {
		less = full &^ api.PteW
	}
	return append(list,
		func() { s.leadSecond(gone, 0) },
		func() { s.allowSecond(gone, less) },
		func() { s.allowSecond(gone, full&^api.PteU) },
		func() { s.leadSecond(gone, pte(1<<44-1, full)) },
		func() { s.set((s.root()+2)*size+8*index(s.gpa(gone), 0), 8, 1<<63|full) },
	)
}

// cores are some of the scene's memory and root: their TLBs know nothing, or what the tables say.
func (s scene) cores() []*hart.Core {
	s.t.Helper()
	var list []*hart.Core
	for _, room := range []int{1, 5, api.MaxTLB} {
		empty, _ := tlb.New(room)
		told, _ := tlb.New(room)
		s.tells(told)
		list = append(list, s.core(empty), s.core(told))
	}
	return list
}

// tells puts into a TLB what the tables say of each page.
func (s scene) tells(t *tlb.TLB) {
	for i := range uint64(pages) {
		for access := api.Fetch; access <= api.Store && s.second; access++ {
			if pa, perm, fault := page.Guest(s.m, s.root(), s.gpa(i), access); fault == api.FaultNone {
				t.Put(api.Trans{Vmid: vmid, Page: s.gpa(i) / size, Frame: pa / size, Perm: perm})
			}
		}
		t.Put(api.Trans{Vmid: vmid + 1, Page: s.gpa(i) / size, Frame: s.pa(spare) / size, Perm: 14})
	}
}

// core is one of the scene's memory and root.
func (s scene) core(t *tlb.TLB) *hart.Core {
	c := hart.New(s.m, t)
	c.Enter(s.root(), vmid)
	return c
}

// fresh is a core whose TLB is empty.
func (s scene) fresh() *hart.Core {
	t, _ := tlb.New(4)
	return s.core(t)
}

// more is the scene with memory where there was none: a copy that has one frame beside, to which the page gone leads.
func (s scene) more() scene {
	s.t.Helper()
	m, e := ram.New(s.m.Base(), frames+1)
	if e != api.OK {
		s.t.Fatalf("no memory: %d", e)
	}
	m.Fill(s.m.Base(), s.all())
	for i := range uint64(size / 8) {
		m.Write(s.end()+8*i, 8, 0x8182_8384_8586_8788+i*0x0f1e_2d3c_4b5a_6978)
	}
	n := s
	n.m = m
	n.leads(s.end() / size)
	return n
}

// P15.4: where a load or a store comes to an exit that is no Walk, Fetch and Plan find it again, and it matches; Finish
// ends it as the step would have ended, if memory were there.
func TestFollows(t *testing.T) {
	for _, s := range scenes(t) {
		for _, f := range forms() {
			for _, place := range []uint64{0, 0x40, 0x42, size - 2} {
				h := s.lays(f.bits, f.long, place)
				for _, lose := range s.losers(f.asked()) {
					lose()
					for _, c := range s.cores() {
						s.found(c, h, f)
					}
				}
				s.finished(h, f)
				s.tables()
			}
		}
	}
}

// found holds an exit of a form against what Fetch, Plan and Match say of it.
func (s scene) found(c *hart.Core, h api.Hart, f form) {
	s.t.Helper()
	g, ev := c.Step(h, 0)
	if g != h || ev.Kind != api.ExitFault || ev.Walk || ev.Access != f.asked() {
		s.t.Fatalf("%s: a step of %#x at %#x comes to %+v", s.name(), f.bits, h.PC, ev)
	}
	w, long, ok := mmio.Fetch(s.m, s.root(), h)
	if long != f.long || !ok {
		s.t.Errorf("P15.4: %s: Fetch of %#x = %#x, %d, %v", s.name(), f.bits, w, long, ok)
	}
	a, ok := mmio.Plan(h, w, long)
	if a != f.planned(h) || !ok || !mmio.Match(a, ev) {
		s.t.Errorf("P15.4: %s: Plan of %#x = %+v, %v, for %+v", s.name(), f.bits, a, ok, ev)
	}
}

// finished holds Finish of a form against what the step comes to where there is memory.
func (s scene) finished(h api.Hart, f form) {
	s.t.Helper()
	n := s.more()
	at := s.end() + 0x40 + f.off
	v, _ := n.m.Read(at, f.access.Size)
	want, ev := n.fresh().Step(h, 0)
	if ev.Kind != api.Retired || ev.Wrote != f.access.Store {
		s.t.Fatalf("%s: with memory a step of %#x comes to %+v", s.name(), f.bits, ev)
	}
	a := f.planned(h)
	same(s.t, fmt.Sprintf("P15.4: %s: %#x", s.name(), f.bits), mmio.Finish(h, a, v), want)
	if is, _ := n.m.Read(at, f.access.Size); f.access.Store && is != a.Value {
		s.t.Errorf("P15.4: %s: %#x stores %#x, not %#x", s.name(), f.bits, is, a.Value)
	}
}

// P15.4: atomics come to the same exits, but are found again by Fetch alone.
func TestAtomicsAreNotPlanned(t *testing.T) {
	lr, sc := uint64(2), uint64(3)
	for _, s := range scenes(t) {
		for _, do := range []uint64{lr, sc, 1, 0, 4, 12, 8, 16, 20, 24, 28} {
			for _, f3 := range []uint64{2, 3} {
				w := do<<27 | 10<<20 | 11<<15 | f3<<12 | 10<<7 | 0x2f
				asked := api.Store
				if do == lr {
					w, asked = w&^(31<<20), api.Load
				}
				h := s.lays(w, 4, 0x40)
				for _, lose := range s.losers(asked) {
					lose()
					_, ev := s.fresh().Step(h, 0)
					if ev.Kind != api.ExitFault || ev.Walk || ev.Access != asked {
						t.Fatalf("%s: a step of %#x comes to %+v", s.name(), w, ev)
					}
					s.fetches(h, uint32(w), 4)
					plans(t, h, uint32(w), 4, api.Access{})
				}
				s.tables()
			}
		}
	}
}

// P15.4: where an entry of the first stage comes to an exit, that is a Walk, and nothing matches.
func TestWalksMatchNothing(t *testing.T) {
	for _, s := range scenes(t) {
		if !s.first {
			continue
		}
		for _, f := range forms() {
			h := s.lays(f.bits, f.long, 0x40)
			h.X[2], h.X[11] = 5<<30|0x40, 5<<30|0x40
			ways := []func(){func() { s.own(upper, 5, pte(s.end()/size, api.PteV)) }}
			if s.second {
				ways = append(ways, func() {
					s.own(upper, 5, pte(s.gpa(gone)/size, api.PteV))
					s.leadSecond(gone, 0)
				})
			}
			for _, way := range ways {
				way()
				_, ev := s.fresh().Step(h, 0)
				if ev.Kind != api.ExitFault || !ev.Walk || ev.Access != f.asked() {
					t.Fatalf("%s: a step of %#x comes to %+v", s.name(), f.bits, ev)
				}
				matches(t, f.planned(h), ev, false)
			}
			s.tables()
		}
	}
}

// P15.4: what comes to no exit of its own matches nothing: a trap by the guest's tables, an address that is no multiple
// of the size, an interrupt, a step that is done, an exit of a Fetch.
func TestOtherEventsMatchNothing(t *testing.T) {
	for _, s := range scenes(t) {
		for _, f := range forms() {
			h := s.lays(f.bits, f.long, 0x40)
			s.leads(s.end() / size)
			taken := h
			taken.On, taken.Sip, taken.Sie = true, 1<<5, 1<<5
			s.comesTo(taken, f, api.Taken)
			if f.access.Size > 1 {
				odd := h
				odd.X[2], odd.X[11] = odd.X[2]+1, odd.X[11]+1
				s.comesTo(odd, f, api.Trapped)
			}
			elsewhere := h
			elsewhere.PC = h.X[11] + f.off
			s.comesTo(elsewhere, f, api.ExitFault)
			s.none(elsewhere)
			if s.first {
				s.allowFirst(gone, 0)
				s.comesTo(h, f, api.Trapped)
			}
			s.tables()
			h.X[2], h.X[11] = s.va(data)+0x40, s.va(data)+0x40
			s.comesTo(h, f, api.Retired)
		}
	}
}

// comesTo holds Match against an event of a kind that is not the form's exit.
func (s scene) comesTo(h api.Hart, f form, kind int) {
	s.t.Helper()
	_, ev := s.fresh().Step(h, 0)
	if ev.Kind != kind {
		s.t.Fatalf("%s: a step of %#x comes to %+v", s.name(), f.bits, ev)
	}
	matches(s.t, f.planned(h), ev, false)
}
