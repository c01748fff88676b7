package mmio_test

import (
	"testing"

	"citadel/api"
	"citadel/inst"
	"citadel/mmio"
)

const (
	loadWord = 0x0005a503 // lw x10, 0(x11)
	loadHalf = 0x4188     // the same, compressed
)

// P15.1: instructions of 4 and of 2 bytes, with and without each stage, as user and as supervisor, at an odd PC too.
func TestFetch(t *testing.T) {
	for _, s := range scenes(t) {
		for _, off := range []uint64{0, 2, 0x40, 0x42, size - 4, size - 2} {
			at := s.hart(s.va(code) + off)
			odd := at
			odd.PC++
			if off <= size-4 {
				s.set(s.pa(code)+off, 4, loadWord)
				s.fetches(at, loadWord, 4)
				s.fetches(odd, loadWord, 4)
				s.set(s.pa(code)+off+2, 2, 0xffff) // what stands behind a compressed one does not count
			}
			s.set(s.pa(code)+off, 2, loadHalf)
			s.fetches(at, loadWord, 2)
			s.fetches(odd, loadWord, 2)
		}
	}
}

// P15.1: any word of 4 bytes is told, whether or not it is an instruction.
func TestFetchAnyWord(t *testing.T) {
	for _, s := range scenes(t) {
		for _, w := range []uint32{loadWord, 0x00a5b423, 0x0000000f, 0x00000073, 0x1005a52f, 3, 0xffffffff, 0xfffffff3, 0x0000ffff, 0xdeadbeef, 0x80000003, 0x00018003} {
			s.set(s.pa(code)+0x40, 4, uint64(w))
			s.fetches(s.hart(s.va(code)+0x40), w, 4)
		}
	}
}

// P15.1: each compressed instruction is told as what it stands for; none of those that stand for nothing.
func TestFetchCompressed(t *testing.T) {
	s := newScene(t, base, true, true, false)
	h := s.hart(s.va(code) + 0x40)
	some := 0
	for c := range uint64(1 << 16) {
		if c%4 == 3 {
			continue
		}
		s.set(s.pa(code)+0x40, 2, c)
		want, there := inst.Expand(uint16(c))
		long := 0
		if there {
			long = 2
			some++
		}
		if w, n, ok := mmio.Fetch(s.m, s.root(), h); w != want || n != long || ok != there {
			t.Fatalf("P15.1: Fetch of %#04x = %#x, %d, %v, not %#x, %d", c, w, n, ok, want, long)
		}
	}
	if some < 1<<15 {
		t.Errorf("only %d stand for something", some)
	}
	for _, s := range scenes(t) {
		for _, c := range []uint64{0, 0x9c41, 0x9d4d, 0x2000, 0xa000, 0x6101, 0x8002, 0x4002} { // reserved, and of floats
			s.set(s.pa(code)+0x40, 4, 0xffff0000|c)
			s.none(s.hart(s.va(code) + 0x40))
		}
	}
}

// straddles lays a word over the end of the page code, and answers a hart that stands at it.
func (s scene) straddles() api.Hart {
	s.t.Helper()
	s.set(s.pa(code)+size-2, 2, loadWord&0xffff)
	s.set(s.pa(after), 2, loadWord>>16)
	return s.hart(s.va(code) + size - 2)
}

// P15.1: the halves of an instruction that lie in two pages are fetched each by itself.
func TestFetchOverTwoPages(t *testing.T) {
	for _, s := range scenes(t) {
		h := s.straddles()
		s.fetches(h, loadWord, 4)
		if !s.first && !s.second {
			continue
		}
		s.set(s.pa(code-1), 2, 0x1234) // what stands behind the first half in the memory does not count
		s.set(s.pa(code)+size-4, 2, 0x4321)
		s.fetches(h, loadWord, 4)
	}
}

// P15.1: where the next page is not there an instruction of 4 bytes is not, but one of 2 is; where the first is not,
// neither is.
func TestFetchBesideNoPage(t *testing.T) {
	for _, s := range scenes(t) {
		for _, none := range s.takers() {
			h := s.straddles()
			none(after)
			s.none(h)
			s.set(s.pa(code)+size-2, 2, loadHalf)
			s.fetches(h, loadWord, 2)
			s.none(s.hart(s.va(after)))
			s.tables()

			h = s.straddles()
			none(code)
			s.none(h)
			s.set(s.pa(code)+size-2, 2, loadHalf)
			s.none(h)
			s.tables()
			s.fetches(h, loadWord, 2)
		}
	}
}

// takers are ways to take a page from the scene's hart.
func (s scene) takers() []func(i uint64) {
	var list []func(i uint64)
	if s.first {
		list = append(list,
			func(i uint64) { s.allowFirst(i, 0) },
			func(i uint64) { s.allowFirst(i, s.rights()&^api.PteX) },
			func(i uint64) { s.own(lower, index(s.va(i), 0), pte(s.end()/size, s.rights())) },
		)
	}
	if s.second {
		list = append(list,
			func(i uint64) { s.leadSecond(i, 0) },
			func(i uint64) { s.allowSecond(i, full&^api.PteX) },
			func(i uint64) { s.leadSecond(i, pte(s.end()/size, full)) },
		)
	}
	return list
}

// P15.1: at the ends of the memory, as far as the hart's addresses are the memory's.
func TestFetchAtTheEnds(t *testing.T) {
	for _, base := range bases {
		for i := range 2 {
			s := newScene(t, base, false, false, i == 1)
			s.set(base, 2, loadHalf)
			s.fetches(s.hart(base), loadWord, 2)
			s.set(base, 4, loadWord)
			s.fetches(s.hart(base), loadWord, 4)
			s.set(s.end()-4, 4, loadWord)
			s.fetches(s.hart(s.end()-4), loadWord, 4)
			s.set(s.end()-2, 2, loadHalf)
			s.fetches(s.hart(s.end()-2), loadWord, 2)
			s.fetches(s.hart(s.end()-1), loadWord, 2)
			s.set(s.end()-2, 2, loadWord&0xffff)
			s.none(s.hart(s.end() - 2))
			for _, pc := range []uint64{s.end(), s.end() + 1, s.end() + 2, base - 2, base - 4, base - 1, ones, ones - 1, ones - 3, 1 << 63, base + 1<<53, 1 << 39} {
				s.none(s.hart(pc))
			}
		}
	}
}

// P15.1: pages that the tables have at the first and the last frame, and beside them.
func TestFetchAtTheLastFrames(t *testing.T) {
	for _, s := range scenes(t) {
		lead := func(number uint64) {
			if s.second {
				s.leadSecond(code, pte(number, full))
			} else {
				s.own(lower, index(s.va(code), 0), pte(number, s.rights()))
			}
		}
		if !s.first && !s.second {
			continue
		}
		s.set(s.m.Base(), 4, loadWord)
		lead(s.m.Base() / size)
		s.fetches(s.hart(s.va(code)), loadWord, 4)
		s.set(s.end()-4, 2, loadHalf)
		lead(s.end()/size - 1)
		s.fetches(s.hart(s.va(after)-4), loadWord, 2)
		lead(s.end() / size)
		s.none(s.hart(s.va(code)))
		s.none(s.hart(s.va(after) - 2))
		if s.m.Base() > 0 {
			lead(s.m.Base()/size - 1)
			s.none(s.hart(s.va(after) - 2))
		}
	}
}

// P15.1: what a leaf of the first stage allows: all eight low bits, with Sum and Mxr and without, which count for no Fetch.
func TestFetchByTheFirstStage(t *testing.T) {
	for _, s := range scenes(t) {
		if !s.first || s.m.Base() == size {
			continue
		}
		s.set(s.pa(code)+0x40, 4, loadWord)
		for bits := range uint64(256) {
			s.allowFirst(code, bits)
			has := func(b uint64) bool { return bits&b != 0 }
			lets := has(api.PteV) && (has(api.PteR) || !has(api.PteW)) && has(api.PteX) && has(api.PteA) && has(api.PteU) == s.user
			for ask := range 4 {
				h := s.hart(s.va(code) + 0x40)
				h.Sum, h.Mxr = ask&1 != 0, ask&2 != 0
				if lets {
					s.fetches(h, loadWord, 4)
				} else {
					s.none(h)
				}
			}
		}
		s.own(lower, index(s.va(code), 0), pte(s.gpa(code)/size, s.rights())|1<<54)
		s.none(s.hart(s.va(code) + 0x40))
	}
}

// P15.1: what a leaf of the second stage allows: all eight low bits.
func TestFetchByTheSecondStage(t *testing.T) {
	for _, s := range scenes(t) {
		if !s.second || s.m.Base() == size {
			continue
		}
		s.set(s.pa(code)+0x40, 4, loadWord)
		for bits := range uint64(256) {
			s.allowSecond(code, bits)
			has := func(b uint64) bool { return bits&b != 0 }
			h := s.hart(s.va(code) + 0x40)
			if has(api.PteV) && (has(api.PteR) || !has(api.PteW)) && has(api.PteX) && has(api.PteA) && has(api.PteU) {
				s.fetches(h, loadWord, 4)
			} else {
				s.none(h)
			}
		}
	}
}

// P15.1: entries of the first stage that are not there, or may not be read.
func TestFetchByEntries(t *testing.T) {
	for _, s := range scenes(t) {
		if !s.first {
			continue
		}
		s.set(s.pa(code)+0x40, 4, loadWord)
		h := s.hart(s.va(code) + 0x40)
		for level, table := range []uint64{lower, middle, upper} {
			s.own(table, index(h.PC, level), 0)
			s.none(h)
			s.own(table, index(h.PC, level), pte(s.end()/size, api.PteV))
			s.none(h)
			s.tables()
			s.fetches(h, loadWord, 4)
			if s.second {
				s.allowSecond(table, full&^api.PteR&^api.PteW)
				s.none(h)
				s.allowSecond(table, full&^api.PteX&^api.PteW)
				s.fetches(h, loadWord, 4)
				s.tables()
			}
		}
		for mode := range uint64(16) {
			h.Satp = mode<<60 | s.satp()&(1<<60-1)
			if mode == 8 {
				s.fetches(h, loadWord, 4)
			} else {
				s.none(h)
			}
		}
		h.Satp = s.satp()
		for _, high := range []uint64{1 << 38, 1 << 39, 1 << 63, ones - 1<<39 + 1} {
			h.PC = s.va(code) + 0x40 ^ high
			s.none(h)
		}
	}
}

// P15.1: the root is the one that is handed in.
func TestFetchByTheRoot(t *testing.T) {
	for _, s := range scenes(t) {
		if !s.second {
			continue
		}
		s.set(s.pa(code)+0x40, 4, loadWord)
		h := s.hart(s.va(code) + 0x40)
		s.fetches(h, loadWord, 4)
		for _, root := range []uint64{0, s.root() + 3, s.end() / size, 1 << 52, s.root() + 1<<52, ones} {
			if w, n, ok := mmio.Fetch(s.m, root, h); w != 0 || n != 0 || ok {
				t.Errorf("P15.1: %s: Fetch by the root %#x = %#x, %d, %v", s.name(), root, w, n, ok)
			}
		}
	}
	s := newScene(t, base, false, true, false)
	s.set(s.pa(code), 4, loadWord)
	h := s.hart(s.pa(code)) // an address that the second stage does not have
	s.none(h)
	if w, n, ok := mmio.Fetch(s.m, 0, h); w != loadWord || n != 4 || !ok {
		t.Errorf("P15.1: Fetch without a second stage = %#x, %d, %v", w, n, ok)
	}
}

// P15.1: addresses go round from the last to the first.
func TestFetchOverTheLastAddress(t *testing.T) {
	for _, s := range scenes(t) {
		if !s.first {
			continue
		}
		s.own(upper, 511, pte(s.gpa(8)/size, api.PteV))
		s.own(8, 511, pte(s.gpa(9)/size, api.PteV))
		s.own(9, 511, pte(s.gpa(code)/size, s.rights()))
		s.own(upper, 0, pte(s.gpa(10)/size, api.PteV))
		s.own(10, 0, pte(s.gpa(11)/size, api.PteV))
		s.own(11, 0, pte(s.gpa(after)/size, s.rights()))
		s.straddles()
		s.fetches(s.hart(ones-1), loadWord, 4)
		s.fetches(s.hart(ones), loadWord, 4)
		s.own(11, 0, 0)
		s.none(s.hart(ones - 1))
		s.set(s.pa(code)+size-2, 2, loadHalf)
		s.fetches(s.hart(ones-1), loadWord, 2)
	}
}

// P15.1: great pages of either stage.
func TestFetchInGreatPages(t *testing.T) {
	for _, base := range bases {
		for _, user := range []bool{false, true} {
			s := newScene(t, base, true, false, user)
			s.set(s.pa(code)+0x40, 4, loadWord)
			in := (s.pa(code) + 0x40) % (1 << 21)
			s.own(middle, 5, pte((s.pa(code)+0x40-in)/size, s.rights()))
			s.fetches(s.hart(3<<30+5<<21+in), loadWord, 4)
			s.own(upper, 7, pte((s.pa(code)>>30)<<18, s.rights()))
			s.fetches(s.hart(7<<30+(s.pa(code)+0x40)%(1<<30)), loadWord, 4)
			s.own(upper, 7, pte((s.pa(code)>>30)<<18+1, s.rights()))
			s.none(s.hart(7<<30 + (s.pa(code)+0x40)%(1<<30)))
			g := newScene(t, base, false, true, user)
			g.set(g.pa(code)+0x40, 4, loadWord)
			g.set(g.root()*size+8*7, 8, pte((g.pa(code)>>30)<<18, full))
			g.fetches(g.hart(7<<30+(g.pa(code)+0x40)%(1<<30)), loadWord, 4)
		}
	}
}

// R4: nothing is remembered: what stands in the memory and in the tables now is what is fetched.
func TestFetchRemembersNothing(t *testing.T) {
	for _, s := range scenes(t) {
		h := s.hart(s.va(code))
		s.set(s.pa(code), 4, loadWord)
		s.set(s.pa(data), 4, 0x00a5b423)
		s.fetches(h, loadWord, 4)
		if s.second {
			s.leadSecond(code, pte(s.pa(data)/size, full))
			s.fetches(h, 0x00a5b423, 4)
			s.tables()
		}
		if s.first {
			s.own(lower, index(s.va(code), 0), pte(s.gpa(data)/size, s.rights()))
			s.fetches(h, 0x00a5b423, 4)
			s.tables()
		}
		s.fetches(h, loadWord, 4)
		s.set(s.pa(code), 2, loadHalf)
		s.fetches(h, loadWord, 2)
	}
}

// P15.1: a hart that is not in order is brought in order; of what it holds beside no more counts than what translates.
func TestFetchOfAnyHart(t *testing.T) {
	for _, s := range scenes(t) {
		s.set(s.pa(code)+0x40, 4, loadWord)
		h := disordered()
		h.PC, h.User, h.Satp = s.va(code)+0x41, s.user, s.satp()
		s.fetches(h, loadWord, 4)
		s.fetches(api.Hart{PC: s.va(code) + 0x40, User: s.user, Satp: s.satp()}, loadWord, 4)
		if s.first {
			h.User = !s.user
			s.none(h)
		} else {
			h.User = !s.user
			s.fetches(h, loadWord, 4)
		}
	}
}
