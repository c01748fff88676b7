package page_test

import (
	"testing"

	"citadel/api"
	"citadel/page"
	"citadel/ram"
)

// scrambled is the memory with every byte turned but those of the entries that were looked at.
func (x random) scrambled(seen map[uint64]bool) *ram.RAM {
	x.t.Helper()
	m, _ := ram.New(x.m.Base(), x.m.Frames())
	b := x.all()
	for i := range b {
		if !seen[(x.m.Base()+uint64(i))&^7] {
			b[i] ^= byte(1 + x.r.Intn(255))
		}
	}
	m.Fill(m.Base(), b)
	return m
}

// P4.3: what is answered hangs on the entries that are read alone.
func TestOtherBytesDoNotCount(t *testing.T) {
	for seed := range int64(24) {
		x := newRandom(t, seed)
		for range 16 {
			c := chapter{x.m, map[uint64]bool{}}
			e, at, access := x.env(), x.address(), x.access()
			want := c.translate(e, at, access)
			if got := page.Translate(x.scrambled(c.seen), e, at, access); got != want {
				t.Fatalf("P4.3: seed %d: Translate(%+v, %#x, %d) = %+v with other bytes elsewhere, not %+v", seed, e, at, access, got, want)
			}
			c = chapter{x.m, map[uint64]bool{}}
			root, gpa := x.root(), x.guestAddress()
			pa, perm, fault := c.guest(root, gpa, access)
			if gotPA, gotPerm, gotFault := page.Guest(x.scrambled(c.seen), root, gpa, access); gotPA != pa || gotPerm != perm || gotFault != fault {
				t.Fatalf("P4.3: seed %d: Guest(%#x, %#x, %d) = %#x, %d, %d with other bytes elsewhere", seed, root, gpa, access, gotPA, gotPerm, gotFault)
			}
		}
	}
}

// P4.3: addresses within one page come to one page, or to one fault.
func TestOnePage(t *testing.T) {
	for seed := range int64(40) {
		x := newRandom(t, seed)
		for range 200 {
			e, at, access := x.env(), x.address()&^(size-1), x.access()
			first := page.Translate(x.m, e, at, access)
			for _, offset := range []uint64{1, uint64(x.r.Intn(size)), size - 1} {
				want := first
				if want.Fault == api.FaultNone {
					want.PA += offset
				}
				if want.Fault != api.FaultPage && !want.Walk {
					want.GPA += offset
				}
				x.at(e, at+offset, access, want)
			}
		}
	}
}

// P4.3: with both stages off it is the address itself, for any access, with any memory.
func TestBothStagesOff(t *testing.T) {
	for seed := range int64(10) {
		x := newRandom(t, seed)
		for range 200 {
			at := x.r.Uint64() >> x.r.Intn(64)
			e := api.Env{Satp: x.r.Uint64() >> 4, User: x.r.Intn(2) == 0, Sum: x.r.Intn(2) == 0, Mxr: x.r.Intn(2) == 0}
			for _, access := range accesses {
				x.at(e, at, access, here(at, at))
			}
		}
		for _, at := range []uint64{0, 1<<38 - 1, 1 << 38, 1 << 39, ones} {
			x.at(api.Env{}, at, api.Store, here(at, at))
		}
	}
}

// P4.3: where a Store comes to, a Load does, by both calls.
func TestWhereAStoreComesALoadDoes(t *testing.T) {
	stores := 0
	for seed := range int64(60) {
		x := newRandom(t, seed)
		for range 400 {
			e, at := x.env(), x.address()
			if p := page.Translate(x.m, e, at, api.Store); p.Fault == api.FaultNone {
				x.at(e, at, api.Load, p)
				stores++
			}
			root, gpa := x.root(), x.guestAddress()
			if pa, perm, fault := page.Guest(x.m, root, gpa, api.Store); fault == api.FaultNone {
				x.guest(root, gpa, api.Load, pa, perm, fault)
			}
		}
	}
	if stores < 500 {
		t.Errorf("only %d Stores came to a place", stores)
	}
}

// P4.3: no call turns a byte: not in a memory that is full of leaves without PteA and PteD, and not in one that was never written.
func TestTranslationTurnsNoMemory(t *testing.T) {
	for _, bits := range []uint64{0, api.PteV, full, own, full &^ api.PteA, full &^ api.PteD, full &^ (api.PteA | api.PteD), ones} {
		w := newWorld(t, api.RamBase, 6)
		for f := range uint64(6) {
			for i := range uint64(512) {
				w.put(w.frame(f), i, pte(w.frame((f+i)%6), bits))
			}
		}
		if bits == 0 {
			w = newWorld(t, api.RamBase, 6)
		}
		was := w.all()
		for f := range uint64(6) {
			for _, access := range accesses {
				page.Guest(w.m, w.frame(f), 7<<30|8<<21|9<<12, access)
				for ask := range 8 {
					e := api.Env{Satp: satp(w.frame(f)), User: ask&1 != 0, Sum: ask&2 != 0, Mxr: ask&4 != 0}
					page.Translate(w.m, e, 7<<30|8<<21|9<<12, access)
					e.Root = w.frame(5 - f)
					page.Translate(w.m, e, 7<<30|8<<21|9<<12, access)
				}
			}
		}
		w.same(was)
	}
}
