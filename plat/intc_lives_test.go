package plat_test

import (
	"math/rand"
	"testing"

	"citadel/api"
)

// act is something that is done to a controller.
type act func(b *both)

// acts are all that is done to a controller of two harts by two sources.
func acts(low, high int) []act {
	var list []act
	for _, src := range []int{low, high} {
		list = append(list,
			func(b *both) { b.level(src, true) },
			func(b *both) { b.level(src, false) },
			func(b *both) { b.pulse(src) })
		for h := range 2 {
			list = append(list, func(b *both) { b.completes(h, uint64(src)) })
		}
	}
	for h := range 2 {
		for _, lets := range [][]int{{}, {low}, {high}, {low, high}} {
			list = append(list, func(b *both) { b.lets(h, lets...) })
		}
		list = append(list, func(b *both) { b.read(0x2000+4*uint64(h), 4) })
	}
	return list
}

// P11.3, P11.4: every act in every state that a controller of two harts can come to by two sources.
func TestIntcEveryActInEveryState(t *testing.T) {
	all := acts(1, 31)
	ways := map[intc][]act{*newIntc(2): nil}
	next := []intc{*newIntc(2)}
	for len(next) > 0 {
		way := ways[next[0]]
		next = next[1:]
		for _, do := range all {
			b := newBoth(t, 2)
			for _, earlier := range way {
				earlier(b)
			}
			do(b)
			is := *b.c
			b.reveal()
			if _, known := ways[is]; !known {
				ways[is] = append(append([]act{}, way...), do)
				next = append(next, is)
			}
		}
	}
	// Of each source: told up or not, pulsed or not, claimed by one, the other or nobody; and what each hart lets.
	if want := 12 * 12 * 4 * 4; len(ways) != want {
		t.Errorf("it came to %d states, not %d", len(ways), want)
	}
}

// P11.3, P11.4: lives of controllers are as the chapter says.
func TestIntcLives(t *testing.T) {
	counts := map[string]int{}
	for seed := range int64(150) {
		r := rand.New(rand.NewSource(seed))
		harts := some(r, 1, 2, 3, 5, 8, api.MaxVcpus)
		b := newBoth(t, harts)
		for range 300 {
			h, src := uint64(r.Intn(harts)), r.Intn(32)
			switch n := r.Intn(100); {
			case n < 15:
				b.level(src, r.Intn(2) == 0)
			case n < 25:
				b.pulse(src)
			case n < 27:
				b.level(some(r, notSources...), r.Intn(2) == 0)
				b.pulse(some(r, notSources...))
			case n < 40:
				b.write(0x1000+4*h, 4, r.Uint64()&r.Uint64()|r.Uint64()<<32)
			case n < 65:
				if b.read(0x2000+4*h, 4) != 0 {
					counts["claimed"]++
				} else {
					counts["none"]++
				}
			case n < 75:
				b.write(0x2000+4*h, 4, r.Uint64()<<32|uint64(r.Intn(40)))
			case n < 92:
				if by := b.c.sources[src].by; by != nobody {
					b.completes(by, uint64(src))
					counts["completed"]++
				}
			default:
				off, size := r.Uint64()>>r.Intn(64), some(r, 4, 4, 4, some(r, notSizes...))
				b.read(off, size)
				b.write(off, size, r.Uint64())
			}
		}
		b.reveal()
	}
	for _, kind := range []string{"claimed", "none", "completed"} {
		if counts[kind] < 1000 {
			t.Errorf("only %d times: %s", counts[kind], kind)
		}
	}
}

// P11.5: a source is claimed by one hart at a time, comes again behind its completion if it is still up, and a pulse comes once.
func TestIntcOneAtATime(t *testing.T) {
	claims := 0
	for seed := range int64(100) {
		r := rand.New(rand.NewSource(seed))
		harts := 1 + r.Intn(6)
		b := newBoth(t, harts)
		for h := range harts {
			b.write(0x1000+4*uint64(h), 4, ones)
		}
		owner, up, pulsed := map[uint64]int{}, map[uint64]bool{}, map[uint64]bool{}
		for range 400 {
			h, src := r.Intn(harts), uint64(1+r.Intn(31))
			switch r.Intn(4) {
			case 0:
				up[src] = r.Intn(2) == 0
				b.level(int(src), up[src])
			case 1:
				pulsed[src] = true
				b.pulse(int(src))
			case 2:
				got := b.read(0x2000+4*uint64(h), 4)
				if got == 0 {
					continue
				}
				if by, ok := owner[got]; ok {
					t.Fatalf("P11.5: hart %d claims %d, which hart %d has", h, got, by)
				}
				if !up[got] && !pulsed[got] {
					t.Fatalf("P11.5: %d is claimed, and neither up nor pulsed", got)
				}
				owner[got], pulsed[got] = h, false
				claims++
			case 3:
				by, ok := owner[src]
				if !ok {
					continue
				}
				b.completes(by, src)
				delete(owner, src)
				if again := up[src] || pulsed[src]; again && !b.x.Pending(h) {
					t.Fatalf("P11.5: %d does not come again", src)
				}
			}
		}
	}
	if claims < 3000 {
		t.Errorf("only %d claims", claims)
	}
}
