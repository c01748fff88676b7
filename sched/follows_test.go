package sched_test

import (
	"math/rand"
	"testing"

	"citadel/api"
)

// shares is what the chapter's bounds are made of: Q, and of an entity's home the weights' sum and how many there are.
type shares struct{ q, w, sum, n int }

// sharesOf are those of an entity, of guests that are there.
func sharesOf(w *world, e int, gone map[int]bool) shares {
	x := shares{q: w.c.Period}
	for _, g := range w.c.Guests {
		if g.Gang {
			x.q -= g.Weight
		}
	}
	guest, _ := w.Guest(e)
	x.w = w.c.Guests[guest].Weight
	for other := range w.Entities() {
		g, _ := w.Guest(other)
		if w.Home(other) != w.Home(e) || w.c.Guests[g].Gang {
			continue
		}
		if !gone[g] {
			x.sum += w.c.Guests[g].Weight
		}
		if !gone[g] || !w.c.Credit {
			x.n++
		}
	}
	return x
}

// within is how many ticks there are at most till an entity runs that is ready throughout.
func (x shares) within(c api.SchedConf) int {
	if c.Credit {
		return c.Period * (4 + (x.q+2*api.MaxVcpus+2)*x.sum/(x.q*x.w) + x.n*c.Slice/x.q)
	}
	return c.Period * (2 + x.n*c.Slice/x.q)
}

// isPlain tells whether an entity's guest is no gang.
func (w *world) isPlain(e int) bool {
	g, _ := w.Guest(e)
	return !w.c.Guests[g].Gang
}

// runsSoon fails if an entity that is ready from now on does not run again within its bound, over some ticks. Others are
// ready as they are told, and harts are asked between ticks, too.
func runsSoon(t *testing.T, r *rand.Rand, w *world, e int, bound, ticks int, others func() []bool) {
	t.Helper()
	left := bound
	for range ticks {
		for range r.Intn(3) {
			ready := others()
			ready[e] = true
			w.Pick(r.Intn(w.c.Harts), ready)
		}
		ready := others()
		ready[e] = true
		was := w.Ran(e)
		w.Tick(ready)
		left--
		if w.Ran(e) > was {
			left = bound
		}
		if left == 0 {
			t.Fatalf("P18.6: %+v, time %d: %d did not run for %d ticks", w.c, w.Now(), e, bound)
		}
	}
}

// P18.6, B: a plain entity that is ready throughout runs within so many ticks, from any moment on.
func TestProgress(t *testing.T) {
	r := rand.New(rand.NewSource(1861))
	played := map[bool]int{}
	for range 600 {
		c := chanceConf(r)
		w := begun(t, c)
		e := r.Intn(w.Entities())
		if !w.isPlain(e) {
			continue
		}
		gone := map[int]bool{}
		bound := sharesOf(w, e, gone).within(c)
		if bound > 20000 {
			continue
		}
		played[c.Credit]++
		// Before that moment it is alone, so that it comes to the least credit, or never ready.
		for range r.Intn(20) * c.Period {
			w.Tick(some(r, w.is(e), w.is(e), w.is(e), chanceReady(r, w.Entities(), 4)))
		}
		often := r.Intn(9)
		chance := func() []bool { return chanceReady(r, w.Entities(), often) }
		runsSoon(t, r, w, e, bound, bound+3*c.Period, some(r, w.all, w.all, chance))
		mine, _ := w.Guest(e)
		if other := r.Intn(len(c.Guests)); other != mine {
			w.Remove(other)
			gone[other] = true
		}
		bound = sharesOf(w, e, gone).within(c)
		runsSoon(t, r, w, e, bound, bound+3*c.Period, w.all)
	}
	if played[true] < 100 || played[false] < 100 {
		t.Errorf("so few: %v", played)
	}
}

// P18.6, B: the same of the lightest among the heaviest, from the least credit on.
func TestProgressOfTheLightest(t *testing.T) {
	r := rand.New(rand.NewSource(1862))
	for _, c := range []api.SchedConf{
		credit(1, 3, 50, plain(1, 1), plain(1, 1000)), credit(1, 7, 10, plain(3, 100), gang(1, 4), plain(1, 1)),
		credit(2, 1000, 20, plain(2, 1), plain(2, 9)), credit(1, 1, 2, gang(1, 1), plain(1, 1), plain(2, 20)),
	} {
		for e := range begun(t, c).Entities() {
			w := begun(t, c)
			if !w.isPlain(e) {
				continue
			}
			w.ticks(400*c.Period, w.is(e))
			bound := sharesOf(w, e, nil).within(c)
			runsSoon(t, r, w, e, bound, bound, w.all)
		}
	}
}

// fair fails if, behind that many full periods, an entity ran more or less than its share and what the chapter lets.
func fair(t *testing.T, w *world, k int) {
	t.Helper()
	for e := range w.Entities() {
		if !w.isPlain(e) {
			continue
		}
		x := sharesOf(w, e, nil)
		off := int(w.Ran(e))*x.sum - k*x.q*x.w
		if most := (x.n + 1) * x.sum; off > most || -off > most {
			t.Fatalf("P18.6: %+v: behind %d periods %d ran %d, of a share of %d * %d / %d", w.c, k, e, w.Ran(e), k*x.q, x.w, x.sum)
		}
	}
}

// P18.6, E: by credit what entities ran differs from their shares by at most n + 1, when all are ready throughout; however
// long, and however often harts are asked.
func TestFairness(t *testing.T) {
	r := rand.New(rand.NewSource(1863))
	for i := range 300 {
		c := chanceConf(r)
		c.Credit = true
		w := begun(t, c)
		periods := 40
		if i%30 == 0 {
			periods = 3000
		}
		for k := range periods {
			for range c.Period {
				for range r.Intn(2) {
					w.Pick(r.Intn(c.Harts), w.all())
				}
				w.Tick(w.all())
			}
			fair(t, w, k+1)
		}
	}
}

// P18.6: in a gang's slot no other guest's entity runs; no entity runs on two harts; by credit a hart with a ready entity
// is never without one in shared time.
func TestHartsAreShared(t *testing.T) {
	r := rand.New(rand.NewSource(1864))
	for range 400 {
		c := chanceConf(r)
		w := begun(t, c)
		for range 150 {
			ready := chanceReady(r, w.Entities(), 1+r.Intn(8))
			var able [api.MaxHarts]bool
			for e := range ready {
				able[w.Home(e)] = able[w.Home(e)] || ready[e] && w.isPlain(e)
			}
			picked := map[int]bool{}
			for hart := range c.Harts {
				e := w.Pick(hart, ready)
				if e == -1 {
					if c.Credit && w.Gang() == -1 && able[hart] {
						t.Fatalf("P18.6: %+v, time %d: hart %d is without one", c, w.Now(), hart)
					}
					continue
				}
				guest, _ := w.Guest(e)
				if !ready[e] || picked[e] || w.Home(e) != hart || w.Gang() != -1 && guest != w.Gang() || w.Gang() == -1 && !w.isPlain(e) {
					t.Fatalf("P18.6: %+v, time %d: hart %d picks %d of %d", c, w.Now(), hart, e, guest)
				}
				picked[e] = true
			}
			was := w.tells()
			w.Tick(ready)
			for e := range ready {
				if (w.Ran(e) > was.ran[e]) != picked[e] || w.Ran(e) > was.ran[e]+1 {
					t.Fatalf("P18.3: %+v, time %d: %d ran %d, and before %d", c, w.Now(), e, w.Ran(e), was.ran[e])
				}
			}
		}
	}
}
