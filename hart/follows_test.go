package hart_test

import (
	"bytes"
	"math/rand"
	"testing"

	"citadel/api"
	"citadel/hart"
	"citadel/page"
	"citadel/tlb"
)

// told puts what the tables say of some pages into a TLB, and anything of another VMID.
func (x random) told(t *tlb.TLB) {
	for range x.r.Intn(100) {
		at, access := uint64(x.r.Intn(pages)), 1+x.r.Intn(3)
		if pa, perm, fault := page.Guest(x.m, x.root, gpa(at), access); fault == api.FaultNone {
			t.Put(api.Trans{Vmid: vmid, Page: pageOf(at), Frame: pa / size, Perm: perm})
		}
		t.Put(api.Trans{Vmid: vmid + 1, Page: pageOf(at), Frame: x.number(), Perm: x.r.Intn(16)})
	}
}

// stepWith is a step over a copy of the memory, with another TLB, and what it leaves there.
func (x random) stepWith(t *tlb.TLB, h api.Hart, now uint64) (api.Hart, api.Event, []byte) {
	w := world{x.t, x.m.Copy(), t, nil}
	w.c = hart.New(w.m, t)
	w.c.Enter(x.root, vmid)
	g, ev := w.peekedStep(h, now)
	return g, ev, w.all()
}

// P6.6: what a step comes to does not hang on the TLB, as long as its entries say what the tables say.
func TestTheTLBDoesNotCount(t *testing.T) {
	for seed := range int64(40) {
		x := newRandom(t, seed)
		for range 15 {
			h, now := x.hart(x.root), x.r.Uint64()
			empty, _ := tlb.New(api.MaxTLB)
			want, ev, left := x.stepWith(empty, h, now)
			for _, room := range []int{1, 2, 5, api.MaxTLB} {
				other, _ := tlb.New(room)
				x.told(other)
				if got, e, bytes := x.stepWith(other, h, now); got != want || e != ev || string(bytes) != string(left) {
					t.Fatalf("P6.6: seed %d: with another TLB %+v, not %+v: %s", seed, e, ev, unlike(got, want))
				}
			}
		}
	}
}

// P6.6: a step turns the bytes that it stores, at the place that it tells, and no others.
func TestOnlyWhatIsStoredTurns(t *testing.T) {
	stored := 0
	for seed := range int64(30) {
		x := newRandom(t, seed)
		x.c.Enter(0, vmid) // so that what is told is where it lies
		for range 60 {
			h := x.hart(0)
			h.Satp, h.Sip = 0, 0
			h.PC = x.pa(data) + uint64(x.r.Intn(size))
			for i := range h.X {
				h.X[i] = x.pa(uint64(x.r.Intn(pages))) + uint64(x.r.Intn(size))&^7
			}
			was := x.all()
			_, ev := x.peekedStep(h, now)
			is := x.all()
			if ev.Wrote {
				stored++
				copy(was[ev.GPA-base:][:8], is[ev.GPA-base:][:8])
			}
			if !bytes.Equal(was, is) {
				t.Fatalf("P6.6: seed %d: %+v has turned more than it stores", seed, ev)
			}
		}
	}
	if stored < 100 {
		t.Errorf("%d steps have stored only", stored)
	}
}

// R1: no step panics, and every one ends, whatever stands in the memory, in the TLB and in the hart.
func TestGarbage(t *testing.T) {
	for seed := range int64(40) {
		r := rand.New(rand.NewSource(seed))
		w := newWorld(t, []uint64{0, base, 1 << 52}[r.Intn(3)], 1+r.Intn(4), 1+r.Intn(8))
		b := make([]byte, w.m.Frames()*size)
		r.Read(b)
		w.m.Fill(w.m.Base(), b)
		word := func() uint64 {
			if r.Intn(2) == 0 {
				return w.m.Base() + uint64(r.Intn(len(b)))
			}
			return r.Uint64() >> r.Intn(64)
		}
		for range 200 {
			h := api.Hart{PC: word(), User: r.Intn(2) == 0, On: r.Intn(2) == 0, Satp: word(), Stvec: word(), Sie: word(), Sip: word(), Sepc: word()}
			for i := range h.X {
				h.X[i] = word()
			}
			w.c.Enter([]uint64{0, word() / size, word()}[r.Intn(3)], int(word()))
			w.x.Put(api.Trans{Vmid: int(word()), Page: h.PC / size, Frame: word(), Perm: int(word())})
			for range 3 {
				h, _ = w.peekedStep(h, word())
				h = hart.Trap(h, word(), word())
				h, _ = hart.Write(h, r.Intn(1<<12), word())
			}
		}
	}
}
