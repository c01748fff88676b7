package hart_test

import (
	"bytes"
	"math/rand"
	"testing"

	"citadel/api"
	"citadel/inst"
)

// random is a guest whose tables, memory and TLB are mostly right.
type random struct {
	guest
	r        *rand.Rand
	room     int
	accesses []api.Inst
}

func newRandom(t *testing.T, seed int64) random {
	t.Helper()
	r := rand.New(rand.NewSource(seed))
	room := 1 + r.Intn(6)
	x := random{newGuest(t, room), r, room, accesses()}
	for i := range uint64(pages) {
		if i < upper || i > lower {
			x.fill(i)
		}
		x.allow(i, x.bits(full))
		if x.rare(20) {
			x.second(gpa(i), 0, pte(x.number(), x.bits(full)))
		}
		x.own(lower, index(va(i), 0), pte(pageOf(i), x.bits(x.pick(own, own, full))))
		if x.rare(10) {
			x.own(lower, index(va(i), 0), pte(x.number(), x.bits(full)))
		}
	}
	if x.rare(8) {
		x.own(x.pick(upper, middle), index(va(0), 1+x.r.Intn(2)), pte(x.number(), x.bits(full)))
	}
	x.flat()
	for range x.r.Intn(room + 3) {
		x.remember()
	}
	return x
}

// flat lays tables for a hart without a second stage into the pages 12, 13 and 14, which lead to the frames.
func (x random) flat() {
	x.own(12, index(va(0), 2), pte(x.frame(13), api.PteV))
	x.own(13, index(va(0), 1), pte(x.frame(14), api.PteV))
	for i := range uint64(pages) {
		x.own(14, index(va(i), 0), pte(x.frame(i), x.bits(x.pick(own, own, full))))
		if x.rare(10) {
			x.own(14, index(va(i), 0), pte(x.number(), full))
		}
	}
}

func (x random) rare(n int) bool { return x.r.Intn(n) == 0 }

func (x random) pick(list ...uint64) uint64 { return list[x.r.Intn(len(list))] }

// bits are those, or one of them is turned.
func (x random) bits(most uint64) uint64 {
	if x.rare(8) {
		return most ^ 1<<x.r.Intn(8)
	}
	return most
}

// number is a page's, of one sort or another.
func (x random) number() uint64 {
	return x.pick(pageOf(x.pick(data, code, lower, other)), x.frame(uint64(x.r.Intn(32))), 99, 0, 512*uint64(x.r.Intn(99)), x.r.Uint64()>>20)
}

// remember puts an entry into the TLB, which the tables may say, or once have said.
func (x random) remember() {
	i := uint64(x.r.Intn(pages))
	e := api.Trans{Vmid: vmid + x.r.Intn(5)/4, Page: pageOf(i), Frame: x.frame(i), Perm: x.r.Intn(16)}
	if x.rare(4) {
		e.Frame = x.pick(x.frame(uint64(x.r.Intn(pages))), 1<<52|e.Frame, x.number())
	}
	x.x.Put(e)
}

// fill fills a page with instructions.
func (x random) fill(i uint64) {
	b := make([]byte, 0, size)
	for len(b) < size {
		w, n := x.instruction()
		for range n {
			b, w = append(b, byte(w)), w>>8
		}
	}
	x.m.Fill(x.pa(i), b[:size])
}

// reg is a register that mostly holds an address.
func (x random) reg() int { return x.r.Intn(12) * x.r.Intn(8) % 32 }

// imm is an immediate that is mostly small, and a multiple of 8.
func (x random) imm() int {
	if x.rare(6) {
		return x.r.Intn(4096) - 2048
	}
	return 8 * (x.r.Intn(9) - 4)
}

// instruction is one of any kind, or of none, and how many bytes it has.
func (x random) instruction() (w uint32, n int) {
	for {
		i := api.Inst{Kind: 1 + x.r.Intn(22), Fn: x.r.Intn(29), Rd: x.reg(), Rs1: x.reg(), Rs2: x.reg(), Imm: x.imm()}
		switch i.Kind {
		case api.KindLui, api.KindAuipc:
			i = api.Inst{Kind: i.Kind, Rd: i.Rd, Imm: i.Imm << 12}
		case api.KindJal:
			i = api.Inst{Kind: i.Kind, Rd: i.Rd, Imm: i.Imm &^ 1}
		case api.KindJalr:
			i.Fn, i.Rs2 = 0, 0
		case api.KindBranch:
			i.Fn, i.Imm = 1+i.Fn%6, i.Imm&^1
		case api.KindAlu:
			i.Imm = 0
		case api.KindAluImm:
			i.Rs2 = 0
		case api.KindCsr, api.KindCsrImm:
			i.Fn, i.Rs2, i.Imm = 1+i.Fn%3, 0, append(csrs, 0xc01, 0xc00)[x.r.Intn(len(csrs)+2)]
		case api.KindSfence:
			i.Fn, i.Rd, i.Imm = 0, 0, 0
		case api.KindFence, api.KindEcall, api.KindEbreak, api.KindSret, api.KindWfi:
			i = api.Inst{Kind: i.Kind}
		case 21:
			return uint32(x.r.Uint64()), 2
		case 22:
			return uint32(x.r.Uint64()) | uint32(x.r.Intn(8))/2, 4
		default:
			a := x.accesses[x.r.Intn(len(x.accesses))]
			i.Kind, i.Fn, i.Size, i.Signed = a.Kind, a.Fn, a.Size, a.Signed
			if asks(i) == api.Load {
				i.Rs2 = 0
			} else if i.Kind == api.KindStore {
				i.Rd = 0
			}
			if i.Kind >= api.KindLr {
				i.Imm = 0
			}
		}
		if w, ok := inst.Encode(i); ok {
			return w, 4
		}
	}
}

// address is mostly one that the tables have, by that hart's satp.
func (x random) address(h api.Hart) uint64 {
	i, offset := uint64(x.r.Intn(pages)), uint64(x.r.Intn(size))
	if !x.rare(6) {
		offset &^= 7
	}
	if x.rare(5) {
		offset = x.pick(0, size-2, size-4, size-8, size-1)
	}
	switch {
	case x.rare(12):
		return x.pick(0, offset, 1<<38|offset, ones-offset, x.r.Uint64(), base-8, base+32*size-x.pick(1, 2, 4, 8))
	case h.Satp>>60 == 8:
		return va(i) + offset
	case x.rare(3):
		return x.pa(i) + offset
	}
	return gpa(i) + offset
}

// hart is one in some state, that has registers that mostly lead somewhere.
func (x random) hart(root uint64) api.Hart {
	flag := func() bool { return x.rare(2) }
	h := api.Hart{User: x.rare(3), On: flag(), Spie: flag(), Spp: flag(), Sum: flag(), Mxr: flag(), Reserved: flag()}
	if h.Satp = x.pick(satp, satp, satp, x.pick(0, 0x1234), x.r.Uint64()); root == 0 && x.rare(2) {
		h.Satp = 8<<60 | x.frame(12)
	}
	h.Sie, h.Sip = x.r.Uint64(), x.pick(0, 0, 0, x.r.Uint64())
	h.Stvec, h.Sepc = x.address(h), x.address(h)
	h.Sscratch, h.Scause, h.Stval = x.r.Uint64(), x.r.Uint64(), x.r.Uint64()
	for i := range h.X {
		h.X[i] = x.address(h)
		if x.rare(8) {
			h.X[i] = x.r.Uint64() >> x.r.Intn(64)
		}
	}
	h.PC, h.Reservation = x.address(h), x.address(h)
	if root == 0 && h.Satp>>60 == 0 {
		h.PC = x.pa(uint64(x.r.Intn(pages))) + h.PC%size
	}
	return h
}

// life lets a hart run, and holds each of its steps against the chapter; tell is told each of them.
func (x random) life(c chapter, steps int, tell func(h api.Hart, root uint64, ev api.Event)) {
	x.t.Helper()
	x.c.Enter(c.root, c.vmid)
	h := x.hart(c.root)
	for range steps {
		now := x.r.Uint64()
		c.list = x.x.Entries()
		want, ev := c.step(h, now)
		tell(h, c.root, ev)
		g, e := x.peekedStep(h, now)
		x.same("P6.4, P6.5", g, want, e, ev)
		x.holds("P6.4", c.list...)
		if x.t.Failed() {
			x.t.Fatalf("a step of %+v", h)
		}
		switch h = g; ev.Kind {
		case api.ExitFault, api.ExitCall:
			h.PC += 4
		}
		if x.rare(6) {
			x.remember()
		}
		x.x.Evict(x.r.Intn(12))
	}
	if got, _ := c.m.Bytes(base, 32*size); !bytes.Equal(got, x.all()) {
		x.t.Fatal("P6.6: these steps leave another memory")
	}
}

// P6.4 to P6.6: in random worlds every step, and every Peek, is what the chapter reads out: hart, event, memory and TLB.
func TestRandomLives(t *testing.T) {
	type met struct {
		root, tables, walk bool
		kind, access       int
	}
	seen := map[met]int{}
	stored := 0
	for seed := range int64(100) {
		x := newRandom(t, seed)
		c := chapter{m: x.m.Copy(), room: x.room}
		for range 60 {
			c.root, c.vmid = x.pick(0, x.root, x.root), vmid+x.r.Intn(8)/7
			x.life(c, 12, func(h api.Hart, root uint64, ev api.Event) {
				seen[met{root != 0, h.Satp>>60 == 8, ev.Walk, ev.Kind, ev.Access}]++
				if ev.Wrote {
					stored++
				}
			})
		}
	}
	for _, root := range []bool{false, true} {
		for _, tables := range []bool{false, true} {
			for kind := api.Retired; kind <= api.ExitWait; kind++ {
				for access := api.Fetch; access <= api.Store; access++ {
					m := met{root: root, tables: tables, kind: kind}
					if kind == api.ExitFault {
						m.access = access
					}
					if seen[m] < 10 {
						t.Errorf("%+v was met %d times only", m, seen[m])
					}
				}
			}
		}
		if m := (met{root: root, tables: true, walk: true, kind: api.ExitFault, access: api.Fetch}); seen[m] < 10 {
			t.Errorf("%+v was met %d times only", m, seen[m])
		}
	}
	if stored < 500 {
		t.Errorf("%d steps have stored only", stored)
	}
}
