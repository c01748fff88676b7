package page_test

import (
	"math/rand"
	"testing"

	"citadel/api"
)

// guestPages is how many pages of a guest the second stage of a random world tells of.
const guestPages = 32

// hot are the entries of a random world's tables that are written.
var hot = []uint64{0, 1, 2, 256, 511}

// random is a memory full of tables that hardly make sense.
type random struct {
	world
	r *rand.Rand
}

func newRandom(t *testing.T, seed int64) random {
	t.Helper()
	r := rand.New(rand.NewSource(seed))
	x := random{newWorld(t, bases[r.Intn(len(bases))], 8+r.Intn(16)), r}
	for i := range x.m.Frames() {
		for _, at := range hot {
			x.put(x.frame(uint64(i)), at, x.entry())
		}
	}
	x.put(x.frame(1), 0, pte(x.frame(2), api.PteV))
	x.put(x.frame(2), 0, pte(x.frame(3), api.PteV))
	x.put(x.frame(2), 1, pte(x.frame(uint64(x.m.Frames())), api.PteV))
	for g := range uint64(guestPages) {
		x.put(x.frame(3), g, x.secondEntry())
	}
	return x
}

// secondEntry is mostly a leaf of a frame.
func (x random) secondEntry() uint64 {
	e := pte(x.frame(uint64(x.r.Intn(x.m.Frames()))), full)
	switch x.r.Intn(12) {
	case 0:
		return x.entry()
	case 1:
		return e &^ (1 << x.r.Intn(8))
	case 2:
		return pte(x.number(), full)
	}
	return e
}

// number is mostly a frame's, or a guest's page.
func (x random) number() uint64 {
	switch x.r.Intn(12) {
	case 0:
		return uint64(x.r.Intn(64)) * 512
	case 1:
		return uint64(x.r.Intn(64)) * 512 * 512
	case 2:
		return x.r.Uint64() >> (20 + x.r.Intn(44))
	case 3, 4, 5, 6:
		return uint64(x.r.Intn(guestPages))
	}
	return x.frame(uint64(x.r.Intn(x.m.Frames()))) + uint64(x.r.Intn(20)/19)
}

// entry is mostly a table or a leaf.
func (x random) entry() uint64 {
	switch x.r.Intn(16) {
	case 0:
		return 0
	case 1:
		return x.r.Uint64()
	case 2:
		return pte(x.number(), uint64(x.r.Intn(1024)))
	case 3:
		return pte(x.number(), full&^(1<<x.r.Intn(8)))
	case 4, 5:
		return pte(x.number(), own)
	case 6, 7:
		return pte(x.number(), full)
	}
	return pte(x.number(), api.PteV)
}

// address mostly goes by entries that are written.
func (x random) address() uint64 {
	if x.r.Intn(12) == 0 {
		return x.r.Uint64() >> x.r.Intn(64)
	}
	a := uint64(x.r.Intn(size))
	for level := range 3 {
		a |= hot[x.r.Intn(len(hot))] << (12 + 9*level)
	}
	if a>>38 == 1 && x.r.Intn(3) > 0 {
		a |= ones &^ (1<<39 - 1)
	}
	return a
}

// guestAddress is mostly one that the second stage tells of.
func (x random) guestAddress() uint64 {
	if x.r.Intn(2) == 0 {
		return uint64(x.r.Intn(guestPages * size))
	}
	return x.address()
}

// root is mostly that of the second stage.
func (x random) root() uint64 {
	switch x.r.Intn(10) {
	case 0, 1:
		return 0
	case 2:
		return x.number()
	case 3:
		return 1<<(52+x.r.Intn(12)) | x.frame(1)
	}
	return x.frame(1)
}

// env mostly has tables, from a guest's page on where there is a second stage.
func (x random) env() api.Env {
	e := api.Env{Satp: x.number(), Root: x.root(), User: x.r.Intn(3) == 0, Sum: x.r.Intn(2) == 0, Mxr: x.r.Intn(2) == 0}
	if e.Root != 0 && x.r.Intn(6) > 0 {
		e.Satp = uint64(x.r.Intn(guestPages))
	}
	switch x.r.Intn(12) {
	case 0:
		e.Satp |= uint64(x.r.Intn(16)) << 60
	case 1, 2:
	default:
		e.Satp |= 8<<60 | uint64(x.r.Intn(1<<16))<<44
	}
	return e
}

// access is mostly one of the three.
func (x random) access() int {
	if x.r.Intn(12) == 0 {
		return accesses[x.r.Intn(len(accesses))]
	}
	return 1 + x.r.Intn(3)
}

// P4.1, P4.2: in random worlds what page answers is what the chapter reads out, and the memory stays as it was.
func TestRandomWorlds(t *testing.T) {
	type kind struct {
		root, tables, walk bool
		fault              int
	}
	met := map[kind]int{}
	guests := map[int]int{}
	for seed := range int64(150) {
		x := newRandom(t, seed)
		was, c := x.all(), chapter{x.m, map[uint64]bool{}}
		for range 2500 {
			root, gpa, access := x.root(), x.guestAddress(), x.access()
			pa, perm, fault := c.guest(root, gpa, access)
			x.guest(root, gpa, access, pa, perm, fault)
			guests[fault]++

			e, at := x.env(), x.address()
			want := c.translate(e, at, access)
			x.at(e, at, access, want)
			x.at(e, at, access, want) // R4: once more
			met[kind{e.Root != 0, e.Satp>>60 == 8, want.Walk, want.Fault}]++
		}
		x.same(was)
		if t.Failed() {
			t.Fatalf("seed %d", seed)
		}
	}
	for _, fault := range []int{api.FaultNone, api.FaultGuest, api.FaultBus} {
		if guests[fault] < 1000 {
			t.Errorf("Guest came to the fault %d in %d cases only", fault, guests[fault])
		}
	}
	for _, k := range []kind{
		{false, false, false, api.FaultNone}, {true, false, false, api.FaultNone}, {true, false, false, api.FaultGuest}, {true, false, false, api.FaultBus},
		{false, true, false, api.FaultNone}, {false, true, false, api.FaultPage}, {false, true, true, api.FaultBus},
		{true, true, false, api.FaultNone}, {true, true, false, api.FaultPage}, {true, true, false, api.FaultGuest}, {true, true, false, api.FaultBus},
		{true, true, true, api.FaultGuest}, {true, true, true, api.FaultBus},
	} {
		if met[k] < 100 {
			t.Errorf("Translate came to %+v in %d cases only", k, met[k])
		}
	}
}
