package mmio_test

import (
	"math"
	"math/rand"
	"testing"

	"citadel/api"
	"citadel/inst"
	"citadel/mmio"
)

// loads are what the forms of loads have, by f3.
var loads = []struct {
	size   int
	signed bool
}{{1, true}, {2, true}, {4, true}, {8, true}, {1, false}, {2, false}, {4, false}}

// stores are the sizes of stores, by f3.
var stores = []int{1, 2, 4, 8}

// immediates are those of loads and stores, at their edges.
var immediates = []int{-2048, -2047, -1, 0, 1, 4, 0x7ef, 2047}

// lengths are how long an instruction may be said to be.
var lengths = []int{4, 2, 0, 1, -1, 3, 1 << 40, math.MinInt, math.MaxInt}

// loadOf is the word of a load.
func loadOf(f3, rd, rs1, imm int) uint32 {
	return uint32(imm&0xfff<<20 | rs1<<15 | f3<<12 | rd<<7 | 0x03)
}

// storeOf is the word of a store.
func storeOf(f3, rs1, rs2, imm int) uint32 {
	return uint32(imm>>5&0x7f<<25 | rs2<<20 | rs1<<15 | f3<<12 | imm&0x1f<<7 | 0x23)
}

// low are the low bytes of a word, as a number.
func low(v uint64, size int) uint64 {
	n := uint64(0)
	for i := range size {
		n += v >> (8 * i) % 256 << (8 * i)
	}
	return n
}

// plans holds Plan against the access that it must answer, or, where that has no Size, none.
func plans(t *testing.T, h api.Hart, w uint32, long int, want api.Access) {
	t.Helper()
	if a, ok := mmio.Plan(h, w, long); a != want || ok != (want.Size != 0) {
		t.Errorf("P15.2: Plan of %#08x = %+v, %v, not %+v", w, a, ok, want)
	}
}

// P15.2: loads of each form, to and from each register, with immediates at their edges; X[0] counts as 0.
func TestPlanLoads(t *testing.T) {
	for f3, form := range loads {
		for reg := range 32 {
			for _, imm := range immediates {
				for _, h := range []api.Hart{sample(), disordered()} {
					x := h.X[reg]
					if reg == 0 {
						x = 0
					}
					rd := (reg*7 + imm) & 31
					want := api.Access{Size: form.size, Signed: form.signed, Reg: rd, Len: 4, VA: x + uint64(imm)}
					plans(t, h, loadOf(f3, rd, reg, imm), 4, want)
					want.Reg = 0
					plans(t, h, loadOf(f3, 0, reg, imm), 4, want)
				}
			}
		}
	}
}

// P15.2: stores of each size, of and by each register, with immediates at their edges; X[0] counts as 0.
func TestPlanStores(t *testing.T) {
	for f3, size := range stores {
		for rs1 := range 32 {
			for rs2 := range 32 {
				imm := immediates[(rs1+rs2)%len(immediates)]
				for _, h := range []api.Hart{sample(), disordered()} {
					g := ordered(h)
					want := api.Access{Store: true, Size: size, Len: 4, VA: g.X[rs1] + uint64(imm), Value: low(g.X[rs2], size)}
					plans(t, h, storeOf(f3, rs1, rs2, imm), 4, want)
				}
			}
		}
	}
	for _, v := range []uint64{0, 1, 0x7f, 0x80, 0xff, 0x100, 0xffff, 1 << 15, 1 << 31, 1 << 32, 1<<32 - 1, 1 << 63, ones} {
		h := sample()
		h.X[9] = v
		for f3, size := range stores {
			want := api.Access{Store: true, Size: size, Len: 4, VA: h.X[8] + 1, Value: low(v, size)}
			plans(t, h, storeOf(f3, 8, 9, 1), 4, want)
		}
	}
}

// P15.2: addresses go round; that one is no multiple of its size does not count.
func TestPlanGoesRound(t *testing.T) {
	for _, x := range []struct {
		reg uint64
		imm int
		va  uint64
	}{
		{ones, 1, 0}, {0, -1, ones}, {ones, 2047, 2046}, {1, -2048, ones - 2046}, {ones - 7, 8, 0}, {1 << 63, -1, 1<<63 - 1},
		{1<<39 - 1, 1, 1 << 39}, {0x10000003, 2, 0x10000005},
	} {
		h := sample()
		h.X[8], h.X[9] = x.reg, 0x55
		for f3, form := range loads {
			plans(t, h, loadOf(f3, 9, 8, x.imm), 4, api.Access{Size: form.size, Signed: form.signed, Reg: 9, Len: 4, VA: x.va})
		}
		for f3, size := range stores {
			plans(t, h, storeOf(f3, 8, 9, x.imm), 4, api.Access{Store: true, Size: size, Len: 4, VA: x.va, Value: 0x55})
		}
	}
}

// P15.2: Len is what is handed in, whatever it says.
func TestPlanLengths(t *testing.T) {
	h := sample()
	for _, long := range lengths {
		plans(t, h, loadWord, long, api.Access{Size: 4, Signed: true, Reg: 10, Len: long, VA: h.X[11]})
		plans(t, h, 0x00a5b423, long, api.Access{Store: true, Size: 8, Len: long, VA: h.X[11] + 8, Value: h.X[10]})
		plans(t, h, nop, long, api.Access{})
	}
}

// P15.2: instructions of each other kind are no access.
func TestPlanOtherKinds(t *testing.T) {
	kinds := map[int]uint32{
		api.KindLui: 0x10000537, api.KindAuipc: 0x10000517, api.KindJal: 0xffdff06f, api.KindJalr: 0x00008067,
		api.KindBranch: 0xfe209ee3, api.KindAlu: 0x00b50533, api.KindAluImm: 0x00500093, api.KindFence: 0x0000000f,
		api.KindEcall: 0x00000073, api.KindEbreak: 0x00100073, api.KindCsr: 0x180512f3, api.KindCsrImm: 0x1802d2f3,
		api.KindLr: 0x1005a52f, api.KindSc: 0x18a5a52f, api.KindAmo: 0x00a5a52f, api.KindSret: 0x10200073,
		api.KindWfi: 0x10500073, api.KindSfence: 0x12000073,
	}
	for kind := api.KindLui; kind <= api.KindSfence; kind++ {
		if kind == api.KindLoad || kind == api.KindStore {
			continue
		}
		w := kinds[kind]
		if i, ok := inst.Decode(w); !ok || i.Kind != kind {
			t.Fatalf("%#08x is not of the kind %d", w, kind)
		}
		plans(t, sample(), w, 4, api.Access{})
		plans(t, disordered(), w, 2, api.Access{})
	}
}

// P15.2: words that are no instruction are no access, however near one they are.
func TestPlanNoInstruction(t *testing.T) {
	words := []uint32{0, ones & 0xffffffff, loadHalf, 0x4188c188, loadOf(7, 10, 11, 0), 0x0005a502, 0x0005a501, 0x0005a507, 0x00a5b427, 0x0005a50b, 0x0005a583 &^ 2}
	for f3 := 4; f3 < 8; f3++ {
		words = append(words, storeOf(f3, 11, 10, 8))
	}
	for _, w := range words {
		plans(t, sample(), w, 4, api.Access{})
	}
}

// P15.2: words by chance are an access just where they decode as one.
func TestPlanAnyWord(t *testing.T) {
	r := rand.New(rand.NewSource(15))
	seen := map[int]int{}
	for range 200000 {
		w, h := r.Uint32(), disordered()
		switch r.Intn(4) {
		case 0:
			w = w&^0x7f | 0x03
		case 1:
			w = w&^0x7f | 0x23
		}
		i, _ := inst.Decode(w)
		g, want := ordered(h), api.Access{}
		switch i.Kind {
		case api.KindLoad:
			want = api.Access{Size: i.Size, Signed: i.Signed, Reg: i.Rd, Len: 2, VA: g.X[i.Rs1] + uint64(i.Imm)}
		case api.KindStore:
			want = api.Access{Store: true, Size: i.Size, Len: 2, VA: g.X[i.Rs1] + uint64(i.Imm), Value: low(g.X[i.Rs2], i.Size)}
		}
		seen[i.Kind]++
		plans(t, h, w, 2, want)
	}
	if seen[api.KindLoad] < 1000 || seen[api.KindStore] < 1000 || seen[0] < 1000 {
		t.Errorf("what was seen: %v", seen)
	}
}

// matches holds Match against what it must answer.
func matches(t *testing.T, a api.Access, ev api.Event, want bool) {
	t.Helper()
	if got := mmio.Match(a, ev); got != want {
		t.Errorf("P15.2: Match(%+v, %+v) = %v", a, ev, got)
	}
}

// P15.2: a load and a store match an ExitFault of theirs that is no Walk: each kind, each access, Walk or not.
func TestMatch(t *testing.T) {
	numbers := append([]int{0, 1, 2, 3, 4, 5}, others...)
	for _, isStore := range []bool{false, true} {
		access := api.Load
		if isStore {
			access = api.Store
		}
		a := api.Access{Store: isStore, Size: 4, Reg: 9, Len: 4, VA: 0x10000008, Value: 0x77}
		for _, kind := range numbers {
			for _, asked := range numbers {
				for _, walk := range []bool{false, true} {
					ev := api.Event{Kind: kind, Access: asked, VA: a.VA, GPA: 0x123, Walk: walk}
					matches(t, a, ev, kind == api.ExitFault && asked == access && !walk)
				}
			}
		}
	}
}

// P15.2: VA must be the access's, in each of its bits; of all else nothing counts.
func TestMatchAddresses(t *testing.T) {
	for _, a := range []api.Access{
		{Size: 4, VA: 0x10000008}, {Size: 8, Signed: true, Reg: 31, Len: 2, Value: 5}, {VA: ones}, {Size: -1, Reg: -1, Len: -1, VA: 1 << 63},
		{Store: true, Size: 1, VA: 0x10000008, Value: ones}, {Store: true, Signed: true, Reg: 7, Len: 4, VA: ones},
	} {
		ev := api.Event{Kind: api.ExitFault, Access: api.Load, VA: a.VA}
		if a.Store {
			ev.Access = api.Store
		}
		for _, gpa := range []uint64{0, a.VA, ^a.VA, 0x123} {
			for _, wrote := range []bool{false, true} {
				ev.GPA, ev.Wrote = gpa, wrote
				matches(t, a, ev, true)
				for bit := range 64 {
					off := ev
					off.VA ^= 1 << bit
					matches(t, a, off, false)
				}
			}
		}
	}
	matches(t, api.Access{}, api.Event{}, false)
	matches(t, api.Access{}, api.Event{Kind: api.ExitFault, Access: api.Load}, true)
}
