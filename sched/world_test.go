package sched_test

import (
	"math"
	"math/rand"
	"slices"
	"testing"

	"citadel/api"
	"citadel/sched"
)

// numbers are those of no hart, no guest, no entity, however many there are.
var numbers = []int{-1, -2, -8, -64, api.MaxVcpus, api.MaxVcpus + 1, 1 << 20, 1 << 31, 1 << 32, -1 << 32, math.MinInt, math.MinInt + 1, math.MaxInt}

// plain is a guest that is no gang.
func plain(vcpus, weight int) api.GuestConf { return api.GuestConf{Vcpus: vcpus, Weight: weight} }

// gang is a guest that runs as a gang.
func gang(vcpus, weight int) api.GuestConf {
	return api.GuestConf{Vcpus: vcpus, Weight: weight, Gang: true}
}

// slots is a conf that is partitioned.
func slots(harts, slice, period int, guests ...api.GuestConf) api.SchedConf {
	return api.SchedConf{Harts: harts, Slice: slice, Period: period, Guests: guests}
}

// credit is a conf by credit.
func credit(harts, slice, period int, guests ...api.GuestConf) api.SchedConf {
	c := slots(harts, slice, period, guests...)
	c.Credit = true
	return c
}

// both is a conf in both orders.
func both(c api.SchedConf) []api.SchedConf {
	other := c
	other.Credit = !c.Credit
	return []api.SchedConf{c, other}
}

// world is what shares harts out under test, and by what.
type world struct {
	t *testing.T
	*sched.Sched
	c api.SchedConf
}

// begun is a world of a conf that may be.
func begun(t *testing.T, c api.SchedConf) *world {
	t.Helper()
	s, e := sched.New(c)
	if s == nil || e != api.OK {
		t.Fatalf("P18.1: New(%+v): %v, %d", c, s, e)
	}
	return &world{t, s, c}
}

// is says of each entity that it can run, if it is one of those.
func (w *world) is(list ...int) []bool {
	ready := make([]bool, w.Entities())
	for _, e := range list {
		ready[e] = true
	}
	return ready
}

// but says of each entity that it can run, if it is none of those.
func (w *world) but(list ...int) []bool {
	ready := w.is(list...)
	for e := range ready {
		ready[e] = !ready[e]
	}
	return ready
}

// all says that all can run.
func (w *world) all() []bool { return w.but() }

// picks fails if the harts, from 0 on, do not pick these.
func (w *world) picks(ready []bool, want ...int) {
	w.t.Helper()
	for hart, e := range want {
		if got := w.Pick(hart, ready); got != e {
			w.t.Errorf("P18.2: time %d: hart %d picks %d, not %d", w.Now(), hart, got, e)
		}
	}
}

// plays lets a tick go by for each of these, which hart 0 picks.
func (w *world) plays(ready []bool, want ...int) {
	w.t.Helper()
	for _, e := range want {
		w.picks(ready, e)
		w.Tick(ready)
	}
}

// ticks lets so many ticks go by.
func (w *world) ticks(n int, ready []bool) {
	for range n {
		w.Tick(ready)
	}
}

// told is all that is told of numbers, entities and guests beside.
type told struct {
	now     uint64
	gang    int
	charged []uint64
	ran     []uint64
	credit  []int
}

// tells is what is told now.
func (w *world) tells() told {
	x := told{now: w.Now(), gang: w.Gang()}
	for g := range w.c.Guests {
		x.charged = append(x.charged, w.Charged(g))
	}
	for e := range w.Entities() {
		x.ran = append(x.ran, w.Ran(e))
		x.credit = append(x.credit, w.Credit(e))
	}
	return x
}

// same tells whether two tell the same.
func (x told) same(y told) bool {
	return x.now == y.now && x.gang == y.gang && slices.Equal(x.charged, y.charged) && slices.Equal(x.ran, y.ran) && slices.Equal(x.credit, y.credit)
}

// charged fails if the guests, from 0 on, were not charged so.
func (w *world) charged(want ...uint64) {
	w.t.Helper()
	if got := w.tells().charged; !slices.Equal(got, want) {
		w.t.Errorf("P18.3: time %d: charged %v, not %v", w.Now(), got, want)
	}
}

// ran fails if the entities, from 0 on, did not run so.
func (w *world) ran(want ...uint64) {
	w.t.Helper()
	if got := w.tells().ran; !slices.Equal(got, want) {
		w.t.Errorf("P18.3: time %d: ran %v, not %v", w.Now(), got, want)
	}
}

// credits fails if the entities, from 0 on, do not have these.
func (w *world) credits(want ...int) {
	w.t.Helper()
	if got := w.tells().credit; !slices.Equal(got, want) {
		w.t.Errorf("P18.3: time %d: credits %v, not %v", w.Now(), got, want)
	}
}

// some is one of a list.
func some[T any](r *rand.Rand, list ...T) T { return list[r.Intn(len(list))] }

// chanceConf is a conf by chance, that may be.
func chanceConf(r *rand.Rand) api.SchedConf {
	for {
		c := api.SchedConf{
			Harts: 1 + r.Intn(some(r, 2, api.MaxHarts)), Slice: 1 + r.Intn(some(r, 1, 4, 12, 1000)),
			Period: 1 + r.Intn(some(r, 4, 12, 40, 300)), Credit: r.Intn(2) == 0,
		}
		vcpus, weights := some(r, 1, 2, 4, 12), some(r, 1, 3, 10, 1000)
		for range 1 + r.Intn(api.MaxGuests) {
			c.Guests = append(c.Guests, api.GuestConf{Vcpus: 1 + r.Intn(vcpus), Weight: 1 + r.Intn(weights), Gang: r.Intn(4) == 0})
		}
		if may(c) {
			return c
		}
	}
}

// chanceReady says by chance who can run: more likely as often as it is told, in 8 times.
func chanceReady(r *rand.Rand, n, often int) []bool {
	ready := make([]bool, n)
	for e := range ready {
		ready[e] = r.Intn(8) < often
	}
	return ready
}
