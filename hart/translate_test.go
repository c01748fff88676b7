package hart_test

import (
	"slices"
	"testing"

	"citadel/api"
	"citadel/page"
)

// three are an instruction of each access: a fence, a load and a store of 8 bytes at X[6].
var three = map[int]api.Inst{
	api.Fetch: {Kind: api.KindFence},
	api.Load:  {Kind: api.KindLoad, Rd: 5, Rs1: 6, Size: 8, Signed: true},
	api.Store: {Kind: api.KindStore, Rs1: 6, Rs2: 7, Size: 8},
}

// pageCauses are the causes of a fault of the first stage.
var pageCauses = map[int]uint64{api.Fetch: 12, api.Load: 13, api.Store: 15}

// meets holds an access at addr, whose fault page.Translate tells, against what a step must make of it.
func (w world) meets(h api.Hart, addr uint64, access int, p api.Place) {
	w.t.Helper()
	switch p.Fault {
	case api.FaultPage:
		w.traps("P6.4", h, pageCauses[access], addr)
	case api.FaultGuest, api.FaultBus:
		w.exits(h, api.Event{Access: access, VA: addr, GPA: p.GPA, Walk: p.Walk})
	default:
		if !w.m.Has(p.PA, 8) {
			w.exits(h, api.Event{Access: access, VA: addr, GPA: p.GPA})
			return
		}
		w.goes(three[access], h, p.GPA, p.PA)
	}
}

// envOf is by what page translates for a hart.
func envOf(h api.Hart, root uint64) api.Env {
	return api.Env{Satp: h.Satp, Root: root, User: h.User, Sum: h.Sum, Mxr: h.Mxr}
}

// P6.4: what a leaf of the first stage allows: all eight low bits, to users and supervisors, with Sum and Mxr and without.
func TestRightsOfTheFirstStage(t *testing.T) {
	for access, i := range three {
		for bits := range uint64(256) {
			w := newGuest(t, 8)
			w.code(w.pa(code), i)
			w.own(lower, index(va(code), 0), pte(pageOf(code), full))
			w.own(lower, index(va(other), 0), pte(pageOf(code), own))
			w.own(lower, index(va(data), 0), pte(pageOf(data), bits))
			if access == api.Fetch {
				w.own(lower, index(va(code), 0), pte(pageOf(code), bits))
			}
			for ask := range 8 {
				h := virtually(va(other)) // where supervisors may fetch
				if h.User = ask&1 != 0; h.User || access == api.Fetch {
					h.PC, h.Sip = va(code), 0
				}
				h.Sum, h.Mxr = ask&2 != 0, ask&4 != 0
				h = with(h, 6, va(data)+0x128, 7, pattern)
				addr := va(data) + 0x128
				if access == api.Fetch {
					addr = va(code)
				}
				p := page.Translate(w.m, envOf(h, w.root), addr, access)
				if access == api.Fetch && p.Fault == api.FaultNone {
					w.retires(h, behind(h, 4))
				} else {
					w.meets(h, addr, access, p)
				}
			}
		}
	}
}

// P6.4: with a satp whose mode is none every fetch is a fault of the first stage; with 0 there is no first stage.
func TestModesOfSatp(t *testing.T) {
	for mode := range uint64(16) {
		w := newGuest(t, 8)
		h := at(va(code))
		h.Satp = mode<<60 | satp&(1<<60-1)
		switch mode {
		case 0:
			w.exits(h, api.Event{Access: api.Fetch, VA: va(code), GPA: va(code)})
			w.holds("P6.4")
		case 8:
			w.retires(h, behind(h, 4))
			w.holds("P6.4", w.entries(upper, middle, lower, code)...)
		default:
			w.traps("P6.4", h, 12, va(code))
			w.holds("P6.4")
		}
		h.Satp ^= 1<<44 | 1<<59 // what stands between mode and table does not count
		v := newGuest(t, 8)
		if mode == 8 {
			v.retires(h, behind(h, 4))
		}
	}
}

// P6.4: addresses whose high bits are not all alike are a fault of the first stage, of loads and stores too.
func TestWideAddresses(t *testing.T) {
	for access, i := range three {
		w := newGuest(t, 8)
		w.code(w.pa(code), i)
		for _, addr := range []uint64{1 << 38, 1<<39 | va(data), 1<<63 | va(data), ones - 1<<39 + 1} {
			if access == api.Fetch {
				w.traps("P6.4", virtually(addr), 12, addr)
			} else {
				w.traps("P6.4", with(virtually(va(code)), 6, addr), pageCauses[access], addr)
			}
		}
	}
}

// P6.4: the second stage of the address itself, all eight low bits, with both stages and with the second alone.
func TestRightsOfTheSecondStage(t *testing.T) {
	for access, i := range three {
		for bits := range uint64(256) {
			for _, h := range []api.Hart{at(gpa(code)), virtually(va(code))} {
				w := newGuest(t, 8)
				w.code(w.pa(code), i)
				addr := va(data) + 0x128
				if h.Satp != satp {
					addr = gpa(data) + 0x128
				}
				target := uint64(data)
				if access == api.Fetch {
					target, addr = code, h.PC
				}
				w.allow(target, bits)
				h.Mxr = true // of the first stage alone
				h = with(h, 6, addr, 7, pattern)
				p := page.Translate(w.m, envOf(h, w.root), addr, access)
				if access == api.Fetch && p.Fault == api.FaultNone {
					w.retires(h, behind(h, 4))
				} else {
					w.meets(h, addr, access, p)
				}
				w.learned(target, bits, p.Fault)
			}
		}
	}
}

// learned fails if the TLB does not have what the second stage allows of a page, just where it had no fault.
func (w guest) learned(i, bits uint64, fault int) {
	w.t.Helper()
	perm := int(bits & rwx)
	if bits&api.PteD == 0 {
		perm &^= api.PteW
	}
	want := api.Trans{Vmid: vmid, Page: pageOf(i), Frame: w.frame(i), Perm: perm}
	if e, ok := w.x.Look(vmid, pageOf(i)); ok != (fault == api.FaultNone) || ok && e != want {
		w.t.Errorf("P6.4: the TLB has %+v, %v, not %+v", e, ok, want)
	}
}

// P6.4: pages of each size at the second stage; the TLB has one page of them.
func TestGreatPagesOfTheSecondStage(t *testing.T) {
	for level := range 3 {
		w := newGuest(t, 8)
		in := uint64(base+code*size) % (size << (9 * level)) // how far into the great page
		addr := uint64(5<<30) + in
		w.second(addr, level, pte((base+code*size-in)/size, full))
		w.set(base+code*size+0x40, 4, 0x00530293)
		h := at(addr + 0x40)
		w.retires(h, behind(with(h, 5, h.X[6]+5), 4))
		w.holds("P6.4", api.Trans{Vmid: vmid, Page: addr / size, Frame: base/size + code, Perm: rwx})
		if level > 0 {
			w.second(addr, level, pte((base+code*size-in)/size+1, full))
			w.x.FlushAll()
			w.exits(h, api.Event{Access: api.Fetch, VA: addr + 0x40, GPA: addr + 0x40}) // it begins where none may
			w.holds("P6.4")
		}
	}
}

// P6.4: great pages of the first stage, without a second one.
func TestGreatPagesOfTheFirstStage(t *testing.T) {
	for level := 1; level < 3; level++ {
		w := newWorld(t, base, 4, 4)
		table := uint64(base/size + 1)
		w.set(table*size+8*7, 8, pte(table+1, api.PteV))
		w.set((table+1)*size, 8, pte(base/size, own))
		if level == 2 {
			w.set(table*size+8*7, 8, pte(base/size, own))
		}
		w.set(base+0x40, 4, 0x00530293)
		h := at(7<<30 + 0x40)
		h.Satp = 8<<60 | table
		w.retires(h, behind(with(h, 5, h.X[6]+5), 4))
		h.PC = 7<<30 + 4*size
		w.exits(h, api.Event{Access: api.Fetch, VA: h.PC, GPA: base + 4*size}) // it goes further than the memory
		w.holds("P6.4")
	}
}

// P6.4: with root 0 the TLB is not asked, and nothing is put; entries outside the memory are told as their physical addresses.
func TestRootNone(t *testing.T) {
	w := newGuest(t, 8)
	w.c.Enter(0, vmid)
	held := []api.Trans{{Vmid: vmid, Page: base / size, Frame: w.frame(code), Perm: rwx}, {Vmid: vmid, Page: w.root, Frame: 1, Perm: rwx}}
	for _, e := range held {
		w.x.Put(e)
	}
	w.set(base+0x40, 2, 0x0001)
	w.retires(at(base+0x40), behind(at(base+0x40), 2))
	w.exits(at(gpa(code)), api.Event{Access: api.Fetch, VA: gpa(code), GPA: gpa(code)})
	h := virtually(va(code))
	w.exits(h, api.Event{Access: api.Fetch, VA: va(code), GPA: entryAt(upper, va(code), 2), Walk: true})
	h.Satp = 8<<60 | w.root
	w.set(w.root*size+8*index(va(code), 2), 8, pte(99, api.PteV))
	w.exits(h, api.Event{Access: api.Fetch, VA: va(code), GPA: 99*size + 8*index(va(code), 1), Walk: true})
	w.set(w.root*size+8*index(va(code), 2), 8, 0)
	w.traps("P6.4", h, 12, va(code))
	w.holds("P6.4", held...)
}

// P6.4: entries of the first stage that fault at either stage, at each level, for each access.
func TestFaultsOfEntries(t *testing.T) {
	for access, i := range three {
		for level, table := range []uint64{lower, middle, upper} {
			fresh := func() (guest, api.Hart, uint64) {
				w := newGuest(t, 8)
				w.code(w.pa(code), i)
				if access == api.Fetch {
					return w, virtually(va(code)), va(code)
				}
				addr := uint64(1 << 38) // the data have tables of their own: other entries of the guest's
				w.own(upper, index(addr, 2), pte(pageOf(12), api.PteV))
				w.own(12, index(addr, 1), pte(pageOf(13), api.PteV))
				w.own(13, index(addr, 0), pte(pageOf(data), own))
				addr |= ones - (1<<39 - 1)
				return w, with(virtually(va(code)), 6, addr), addr
			}
			if access != api.Fetch {
				table = []uint64{13, 12, upper}[level]
			}
			w, h, addr := fresh()
			if access == api.Fetch {
				w.retires(h, behind(h, 4))
			} else {
				w.goes(i, h, gpa(data), w.pa(data))
			}
			w, h, addr = fresh()
			w.own(table, index(addr, level), 0)
			w.traps("P6.4", h, pageCauses[access], addr)
			w.own(table, index(addr, level), pte(pageOf(data), own)|1<<54)
			w.traps("P6.4", h, pageCauses[access], addr)
			if table == upper && access != api.Fetch {
				continue // the fetch has it too
			}
			at := api.Event{Access: access, VA: addr, GPA: entryAt(table, addr, level), Walk: true}
			w, h, _ = fresh()
			w.allow(table, full&^api.PteR&^api.PteW)
			w.exits(h, at)
			w.allow(table, full&^api.PteU)
			w.exits(h, at)
			w.second(gpa(table), 0, pte(99, full)) // outside the memory
			w.exits(h, at)
			e, ok := w.x.Look(vmid, pageOf(table))
			if want := (api.Trans{Vmid: vmid, Page: pageOf(table), Frame: 99, Perm: rwx}); !ok || e != want {
				t.Errorf("P6.4: what the second stage says of an entry's page is not in the TLB: %+v", e)
			}
		}
	}
}

// P6.4: tables of the second stage outside the memory, and guest-physical addresses that it does not have.
func TestSecondStageOutside(t *testing.T) {
	w := newGuest(t, 8)
	w.second(7<<30, 2, pte(99, api.PteV))
	w.exits(at(7<<30), api.Event{Access: api.Fetch, VA: 7 << 30, GPA: 7 << 30})
	w.exits(at(1<<39), api.Event{Access: api.Fetch, VA: 1 << 39, GPA: 1 << 39})
	w.exits(at(1<<63), api.Event{Access: api.Fetch, VA: 1 << 63, GPA: 1 << 63})
	w.second(gpa(other), 0, pte(99, full))
	w.exits(at(gpa(other)+8), api.Event{Access: api.Fetch, VA: gpa(other) + 8, GPA: gpa(other) + 8})
	outside := api.Trans{Vmid: vmid, Page: pageOf(other), Frame: 99, Perm: rwx}
	w.holds("P6.4", outside) // the tables have no fault: the entry is put, and then nothing lies there
	w.own(lower, index(va(data), 0), pte(1<<43, own))
	w.code(w.pa(code), three[api.Store])
	h := with(virtually(va(code)), 6, va(data)+8)
	w.exits(h, api.Event{Access: api.Store, VA: va(data) + 8, GPA: 1<<55 + 8})
	w.holds("P6.4", append([]api.Trans{outside}, w.entries(upper, middle, lower, code)...)...)
	for _, root := range []uint64{99, 1 << 52, 1<<52 + w.root, ones} {
		w.c.Enter(root, vmid+1)
		w.exits(at(gpa(code)), api.Event{Access: api.Fetch, VA: gpa(code), GPA: gpa(code)})
		w.exits(virtually(va(code)), api.Event{Access: api.Fetch, VA: va(code), GPA: entryAt(upper, va(code), 2), Walk: true})
	}
}

// P6.4: an entry of the TLB that allows the access is taken, whatever the tables say; its place among the others stays.
func TestEntriesThatAllow(t *testing.T) {
	for access, i := range three {
		perm := map[int]int{api.Fetch: api.PteX, api.Load: api.PteR, api.Store: api.PteW}[access]
		for have := range 16 {
			w := newGuest(t, 4)
			w.code(w.pa(code), i)
			w.set(w.pa(other), 4, 0x00530293)
			w.set(w.pa(other)+0x128, 8, pattern)
			target, h := uint64(data), with(at(gpa(code)), 6, gpa(data)+0x128, 7, 55)
			if access == api.Fetch {
				target = code
			} else {
				w.x.Put(w.entry(code))
			}
			stale := api.Trans{Vmid: vmid, Page: pageOf(target), Frame: w.frame(other), Perm: have | 1<<9}
			last := api.Trans{Vmid: 1, Page: 1, Frame: 1, Perm: 1}
			w.x.Put(stale)
			w.x.Put(last)
			was := w.x.Entries()
			took := have&perm != 0
			switch {
			case access != api.Fetch && took:
				w.goes(i, h, gpa(data)+0x128, w.pa(other)+0x128)
			case access != api.Fetch:
				w.goes(i, h, gpa(data)+0x128, w.pa(data)+0x128)
			case took:
				w.retires(h, behind(with(h, 5, h.X[6]+5), 4))
			default:
				w.retires(h, behind(h, 4))
			}
			if took {
				w.holds("P6.4", was...)
			} else { // the tables' entry comes in the place of the old one, behind all others
				w.holds("P6.4", append(slices.DeleteFunc(was, func(e api.Trans) bool { return e == stale }), w.entry(target))...)
			}
		}
	}
}

// P6.4: entries that do not allow the access, where the tables fault: nothing is put, and the entry stays.
func TestEntriesThatDoNotAllow(t *testing.T) {
	for access, i := range three {
		if access == api.Fetch {
			continue
		}
		w := newGuest(t, 4)
		w.code(w.pa(code), i)
		w.allow(data, 0)
		stale := api.Trans{Vmid: vmid, Page: pageOf(data), Frame: w.frame(other), Perm: api.PteX}
		w.x.Put(stale)
		w.exits(with(at(gpa(code)), 6, gpa(data)), api.Event{Access: access, VA: gpa(data), GPA: gpa(data)})
		w.holds("P6.4", stale, w.entry(code))
	}
	w := newGuest(t, 4)
	w.allow(code, full&^api.PteX)
	stale := api.Trans{Vmid: vmid, Page: pageOf(code), Frame: w.frame(code), Perm: api.PteR | api.PteW}
	w.x.Put(stale)
	w.exits(at(gpa(code)), api.Event{Access: api.Fetch, VA: gpa(code), GPA: gpa(code)})
	w.holds("P6.4", stale)
}

// P6.4: entries of other VMIDs and of other pages are not taken.
func TestEntriesOfOthers(t *testing.T) {
	w := newGuest(t, 8)
	others := []api.Trans{
		{Vmid: vmid + 1, Page: pageOf(code), Frame: w.frame(other), Perm: rwx},
		{Vmid: 0, Page: pageOf(code), Frame: w.frame(other), Perm: rwx},
		{Vmid: vmid, Page: pageOf(code) + 1, Frame: w.frame(other), Perm: rwx},
		{Vmid: vmid, Page: pageOf(code) | 1<<51, Frame: w.frame(other), Perm: rwx},
		{Vmid: vmid, Page: gpa(code), Frame: w.frame(other), Perm: rwx},
	}
	for _, e := range others {
		w.x.Put(e)
	}
	w.retires(at(gpa(code)), behind(at(gpa(code)), 4))
	w.holds("P6.4", append(others, w.entry(code))...)
	w.c.Enter(w.root, vmid+1)
	w.traps("P6.4", at(gpa(code)), 2, 0) // the other page is empty
}

// P6.4: entries of the first stage are read where the TLB says, as a Load.
func TestEntriesByTheTLB(t *testing.T) {
	w := newGuest(t, 8)
	table := func(perm int) api.Trans {
		return api.Trans{Vmid: vmid, Page: pageOf(lower), Frame: w.frame(other), Perm: perm}
	}
	w.own(other, index(va(code), 0), pte(pageOf(after), own)) // another table, that has the page after for code
	w.set(w.pa(after), 4, 0x00530293)
	h := virtually(va(code))
	w.x.Put(table(api.PteR))
	w.retires(h, behind(with(h, 5, h.X[6]+5), 4))
	w.holds("P6.4", append([]api.Trans{table(api.PteR)}, w.entries(upper, middle, after)...)...)
	w.x.FlushAll()
	w.x.Put(table(api.PteW | api.PteX))
	w.retires(h, behind(h, 4))
	w.holds("P6.4", w.entries(upper, middle, lower, code)...)
	w.x.Put(api.Trans{Vmid: vmid, Page: pageOf(lower), Frame: 1 << 40, Perm: api.PteR})
	w.exits(h, api.Event{Access: api.Fetch, VA: va(code), GPA: entryAt(lower, va(code), 0), Walk: true}) // it leads out of the memory
	w.x.Put(table(rwx))
	w.own(other, index(va(code), 0), 0)
	w.traps("P6.4", h, 12, va(code))
}

// P6.4: an entry's Frame times PageSize is modulo 2^64, and where it leads out of the memory is told as the guest's address.
func TestFramesOfEntries(t *testing.T) {
	w := newGuest(t, 4)
	h := at(gpa(code))
	for high := range uint64(12) {
		w.x.Put(api.Trans{Vmid: vmid, Page: pageOf(code), Frame: w.frame(code) | 1<<(52+high), Perm: api.PteX})
		w.retires(h, behind(h, 4))
	}
	for _, frame := range []uint64{0, base/size - 1, base/size + 32, 1 << 51, ones} {
		w.x.Put(api.Trans{Vmid: vmid, Page: pageOf(code), Frame: frame, Perm: api.PteX})
		w.exits(h, api.Event{Access: api.Fetch, VA: gpa(code), GPA: gpa(code)})
	}
	w.code(w.pa(code), three[api.Store])
	w.x.FlushAll()
	w.x.Put(api.Trans{Vmid: vmid, Page: 1 << 40, Frame: w.frame(data), Perm: api.PteW}) // a page that the tables can't have
	h = with(h, 6, 1<<52+8, 7, 55)
	w.does("P6.4", h, behind(h, 4), wrote(1<<52+8))
	if w.get(w.pa(data)+8, 8) != 55 {
		t.Error("P6.4: the entry's frame was not stored into")
	}
}

// P6.4: what a step puts into the TLB stays there, though the hart is as it was behind an exit or a trap.
func TestEntriesStayBehindAnExit(t *testing.T) {
	w := newGuest(t, 8)
	w.code(w.pa(code), three[api.Load])
	h := with(virtually(va(code)), 6, 0)
	w.traps("P6.4", h, 13, 0)
	w.holds("P6.4", w.entries(upper, middle, lower, code)...)
	w.x.FlushAll()
	w.exits(with(at(gpa(code)), 6, 0), api.Event{Access: api.Load})
	w.holds("P6.4", w.entries(code)...)
	w.x.FlushAll()
	w.set(w.pa(code), 4, 0xffffffff)
	w.traps("P6.4", h, 2, 0xffffffff)
	w.holds("P6.4", w.entries(upper, middle, lower, code)...)
}

// P6.5: Peek tells what Step would come to also where what Step puts drives out what it would have gone by.
func TestPeekWithLittleRoom(t *testing.T) {
	for room := 1; room <= 3; room++ {
		w := newGuest(t, room)
		w.code(w.pa(code), three[api.Load])
		h := with(at(gpa(code)), 6, gpa(data))
		w.allow(data, 0)
		w.x.Put(api.Trans{Vmid: vmid, Page: pageOf(data), Frame: w.frame(other), Perm: api.PteR})
		if room == 3 {
			w.x.Put(api.Trans{Vmid: 1, Page: 2, Frame: 3, Perm: 4})
		}
		if room == 1 { // the fetch takes the only place
			w.exits(h, api.Event{Access: api.Load, VA: gpa(data), GPA: gpa(data)})
			w.holds("P6.4", w.entries(code)...)
		} else {
			w.goes(three[api.Load], h, gpa(data), w.pa(other))
		}
	}
}
