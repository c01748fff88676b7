package page_test

import (
	"testing"

	"citadel/api"
)

// va is an address whose three entries have three numbers.
const va = 3<<30 | 2<<21 | 1<<12 | 0x128

// What a guest has in its pages: tables of the levels 2, 1 and 0, and data.
const (
	upper, middle, lower = 4, 5, 6
	data                 = 7
)

// The guest-physical addresses of the entries that a walk of va meets.
const (
	upperAt  = upper*size + 3*8
	middleAt = middle*size + 2*8
	lowerAt  = lower*size + 1*8
)

// both is a memory with both stages: a guest's page g is the frame g and 16, and va comes to the guest's data.
type both struct {
	world
	env api.Env
}

func newBoth(t *testing.T, base uint64) both {
	t.Helper()
	b := both{world: newWorld(t, base, 32)}
	b.env = api.Env{Satp: satp(upper), Root: b.frame(1)}
	for g := uint64(upper); g <= data; g++ {
		b.second(g, pte(b.frame(g+16), full))
	}
	b.own(upper, 3, pte(middle, api.PteV))
	b.own(middle, 2, pte(lower, api.PteV))
	b.own(lower, 1, pte(data, own))
	return b
}

// second writes the second stage's entry of a guest's page.
func (b both) second(g, e uint64) {
	b.t.Helper()
	b.lead(b.threes(), g*size, 0, e)
}

// own writes an entry into a table of the guest.
func (b both) own(g, at, e uint64) {
	b.t.Helper()
	b.put(b.frame(g+16), at, e)
}

// P4.2: through both stages, from where each of the guest's pages lies.
func TestBothStages(t *testing.T) {
	for _, base := range bases {
		b := newBoth(t, base)
		for _, access := range accesses {
			if access >= api.Fetch && access <= api.Store {
				b.at(b.env, va, access, here(b.frame(data+16)*size+0x128, data*size+0x128))
			} else {
				b.at(b.env, va, access, pageFault())
			}
		}
		b.own(lower, 1, pte(lower, own))
		b.at(b.env, va, api.Store, here(b.frame(lower+16)*size+0x128, lower*size+0x128))
	}
}

// P4.2: a fault of the second stage at an entry of the first is told with that entry's address, whatever the access is.
func TestSecondStageOfEntries(t *testing.T) {
	for _, base := range []uint64{0, api.RamBase} {
		for g, at := range map[uint64]uint64{upper: upperAt, middle: middleAt, lower: lowerAt} {
			for bits := range uint64(256) {
				b := newBoth(t, base)
				b.second(g, pte(b.frame(g+16), bits))
				right := bits&(api.PteV|api.PteR|api.PteU|api.PteA) == api.PteV|api.PteR|api.PteU|api.PteA
				for _, e := range []api.Env{b.env, {Satp: b.env.Satp, Root: b.env.Root, Mxr: true, Sum: true}} {
					for _, access := range accesses {
						switch {
						case !right:
							b.at(e, va, access, walking(at, api.FaultGuest))
						case access >= api.Fetch && access <= api.Store:
							b.at(e, va, access, here(b.frame(data+16)*size+0x128, data*size+0x128))
						default:
							b.at(e, va, access, pageFault())
						}
					}
				}
			}
		}
	}
}

// P4.2: an entry of the first stage that the second one leads out of the memory is told as its guest-physical address; so is one whose second stage has a table outside.
func TestEntriesOutside(t *testing.T) {
	for _, base := range bases {
		for g, at := range map[uint64]uint64{upper: upperAt, middle: middleAt, lower: lowerAt} {
			b := newBoth(t, base)
			for _, number := range b.outside() {
				b.second(g, pte(number, full))
				for _, access := range accesses {
					b.at(b.env, va, access, walking(at, api.FaultBus))
				}
			}
			b.second(g, pte(b.frame(g+16), full))
			b.put(b.frame(1), 0, pte(b.frame(32), api.PteV))
			b.at(b.env, va, api.Load, walking(upperAt, api.FaultBus))
			b.env.Root = 1<<52 + b.frame(1)
			b.at(b.env, va, api.Load, walking(upperAt, api.FaultBus))
		}
	}
}

// P4.2: guest-physical addresses from 2^39 on are the second stage's fault, of the address itself and of entries.
func TestGuestPhysicalBeyond(t *testing.T) {
	b := newBoth(t, api.RamBase)
	for _, number := range []uint64{1 << 27, 1<<27 + data, 1 << 43, 1<<44 - 1} {
		b.own(lower, 1, pte(number, own))
		b.at(b.env, va, api.Load, blocked(number*size+0x128, api.FaultGuest))
		b.own(middle, 2, pte(number, api.PteV))
		b.at(b.env, va, api.Load, walking(number*size+8, api.FaultGuest))
		b.own(upper, 3, pte(number, api.PteV))
		b.at(b.env, va, api.Load, walking(number*size+16, api.FaultGuest))
		b.at(api.Env{Satp: satp(number), Root: b.env.Root}, va, api.Load, walking(number*size+24, api.FaultGuest))
		b.own(upper, 3, pte(middle, api.PteV))
		b.own(middle, 2, pte(lower, api.PteV))
	}
	b.own(lower, 1, pte(1<<27-1, own))
	b.put(b.frame(1), 511, pte(512*512, full))
	b.at(b.env, va, api.Load, here(1<<31-size+0x128, 1<<39-size+0x128))
}

// P4.2: the second stage of the address itself goes by the access alone: not by User, Sum and Mxr.
func TestSecondStageOfTheAddress(t *testing.T) {
	b := newBoth(t, size)
	for bits := range uint64(256) {
		b.second(data, pte(b.frame(data+16), bits))
		right := bits&api.PteV != 0 && bits&(api.PteR|api.PteW) != api.PteW
		for ask := range 8 {
			e := api.Env{Satp: b.env.Satp, Root: b.env.Root, User: ask&1 != 0, Sum: ask&2 != 0, Mxr: ask&4 != 0}
			leaf := uint64(own)
			if e.User {
				leaf = full
			}
			b.own(lower, 1, pte(data, leaf))
			for _, access := range accesses {
				want := blocked(data*size+0x128, api.FaultGuest)
				if access < api.Fetch || access > api.Store {
					want = pageFault()
				} else if right && leafLets(bits, access) {
					want = here(b.frame(data+16)*size+0x128, data*size+0x128)
				}
				b.at(e, va, access, want)
			}
		}
	}
	b.own(lower, 1, pte(data, own))
	for _, number := range b.outside() { // where it comes to need not lie in the memory
		b.second(data, pte(number, full))
		b.at(b.env, va, api.Load, here(number*size+0x128, data*size+0x128))
	}
	b.put(b.frame(2), 9, pte(b.frame(32), api.PteV))
	b.own(lower, 1, pte(9*512, own))
	b.at(b.env, va, api.Load, blocked(9*512*size+0x128, api.FaultBus))
	b.at(b.env, va, 8, pageFault())
}

// P4.2: a Load of what may only be fetched is the first stage's to allow by Mxr, never the second's.
func TestMxrIsOfTheFirstStage(t *testing.T) {
	b := newBoth(t, 0)
	b.env.Mxr = true
	b.own(lower, 1, pte(data, api.PteV|api.PteX|api.PteA))
	b.at(b.env, va, api.Load, here((data+16)*size+0x128, data*size+0x128))
	b.second(data, pte(data+16, full&^(api.PteR|api.PteW)))
	b.at(b.env, va, api.Load, blocked(data*size+0x128, api.FaultGuest))
	b.at(b.env, va, api.Fetch, here((data+16)*size+0x128, data*size+0x128))
	b.second(lower, pte(lower+16, full&^(api.PteR|api.PteW)))
	b.at(b.env, va, api.Fetch, walking(lowerAt, api.FaultGuest))
}

// P4.2: great pages of both stages, one within the other.
func TestGreatPagesOfBoth(t *testing.T) {
	const offset = 2<<21 | 1<<12 | 0x128
	b := newBoth(t, api.RamBase)
	b.own(upper, 3, pte(5*512*512, own))
	b.at(b.env, va, api.Load, blocked(5<<30|offset, api.FaultGuest))
	b.put(b.frame(1), 5, pte(9*512*512, full))
	b.at(b.env, va, api.Load, here(9<<30|offset, 5<<30|offset))
	b.lead(b.threes(), 5<<30|offset, 1, pte(77*512, full))
	b.at(b.env, va, api.Load, here(77<<21|1<<12|0x128, 5<<30|offset))
	b.lead(b.threes(), 5<<30|offset, 1, pte(77*512+1, full))
	b.at(b.env, va, api.Load, blocked(5<<30|offset, api.FaultGuest))
	b.own(upper, 3, pte(5*512*512+512, own))
	b.at(b.env, va, api.Load, pageFault())
}

// P4.2: what is found first is told: each line below sets right what was told, and finds what stood behind it.
func TestTranslateOrder(t *testing.T) {
	b := newBoth(t, api.RamBase)
	away, wrong := b.frame(40), pte(data, own&^api.PteV)
	b.put(b.frame(1), 0, wrong) // the second stage of everything
	b.own(upper, 3, wrong)
	b.own(middle, 2, wrong)
	b.own(lower, 1, pte(9, own&^api.PteA))
	b.second(middle, pte(away, full))
	b.put(b.frame(1), 0, wrong)
	e := b.env
	e.Satp, e.Root = 7<<60|upper, away

	b.at(e, 1<<38|va, 9, pageFault()) // satp's mode
	e.Satp = satp(1 << 43)
	b.at(e, 1<<38|va, 9, pageFault())                                                   // the address's bits
	b.at(e, va, 9, walking((1<<43)*size+24, api.FaultGuest))                            // the entry's address is none
	b.at(api.Env{Satp: satp(upper), Root: away}, va, 9, walking(upperAt, api.FaultBus)) // the second stage's first table
	e.Satp, e.Root = satp(upper), b.frame(1)
	b.at(e, va, 9, walking(upperAt, api.FaultGuest)) // an entry there
	b.put(b.frame(1), 0, pte(b.frame(2), api.PteV))
	b.at(e, va, 9, pageFault()) // the first stage's entry of level 2
	b.own(upper, 3, pte(middle, api.PteV))
	b.at(e, va, 9, walking(middleAt, api.FaultBus)) // where the entry of level 1 lies
	b.second(middle, pte(b.frame(middle+16), full&^api.PteA))
	b.at(e, va, 9, walking(middleAt, api.FaultGuest))
	b.second(middle, pte(b.frame(middle+16), full))
	b.at(e, va, 9, pageFault()) // that entry
	b.own(middle, 2, pte(8, api.PteV))
	b.at(e, va, 9, walking(8*size+8, api.FaultGuest)) // the table of level 0
	b.own(middle, 2, pte(lower, api.PteV))
	b.at(e, va, api.Load, pageFault()) // the leaf's rights
	b.own(lower, 1, pte(9, own))
	b.at(e, va, 9, pageFault())                                  // the access
	b.at(e, va, api.Load, blocked(9*size+0x128, api.FaultGuest)) // the second stage of the address itself, last
	b.second(9, pte(away, full))
	b.at(e, va, api.Load, here(away*size+0x128, 9*size+0x128))
}
