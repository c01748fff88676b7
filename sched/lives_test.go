package sched_test

import (
	"fmt"
	"math/rand"
	"slices"
	"testing"

	"citadel/api"
	"citadel/sched"
)

// holds fails if what is told is not what the chapter says.
func holds(t *testing.T, w *world, x *chapter) {
	t.Helper()
	is := w.tells()
	want := told{now: uint64(x.now), gang: x.slot[x.at]}
	for g := range x.c.Guests {
		want.charged = append(want.charged, uint64(x.charged[g]))
	}
	for e := range x.home {
		want.ran = append(want.ran, uint64(x.ran[e]))
		want.credit = append(want.credit, x.credit[e])
		if guest, index := w.Guest(e); w.Home(e) != x.home[e] || guest != x.guest[e] || index != x.index[e] {
			t.Fatalf("P18.1: %+v: %d is %d of %d, at home at %d", x.c, e, index, guest, w.Home(e))
		}
	}
	if !is.same(want) || w.Entities() != len(x.home) {
		t.Fatalf("P18.3: %+v:\n%+v, not\n%+v", x.c, is, want)
	}
}

// life is one that lives by chance, beside what the chapter says of it.
type life struct {
	*world
	x       *chapter
	r       *rand.Rand
	ready   []bool
	often   int
	removes bool
}

// newLife is one of a conf.
func newLife(t *testing.T, r *rand.Rand, c api.SchedConf) *life {
	t.Helper()
	l := &life{world: begun(t, c), x: reads(c), r: r, often: 1 + r.Intn(8), removes: r.Intn(2) == 0}
	l.ready = chanceReady(r, l.Entities(), l.often)
	return l
}

// lends is who is ready, in a list that is lent: what is beyond it says that all is.
func (l *life) lends() []bool {
	n := len(l.ready)
	if l.r.Intn(20) == 0 {
		n = l.r.Intn(n + 1)
	}
	list := append(slices.Clone(l.ready[:n]), true, true, true)
	if l.r.Intn(20) == 0 {
		return list
	}
	return list[:n]
}

// asked fails if a list that was lent was written.
func (l *life) asked(list, was []bool) {
	l.t.Helper()
	if !slices.Equal(list[:cap(list)], was) {
		l.t.Fatalf("R3: %v was %v", list[:cap(list)], was)
	}
	for i := range was {
		list[:cap(list)][i] = !was[i] // nobody keeps it
	}
}

// picks asks a hart.
func (l *life) picks(hart int) {
	l.t.Helper()
	list := l.lends()
	was := slices.Clone(list[:cap(list)])
	e, want := l.Pick(hart, list), l.x.pick(hart, list)
	l.asked(list, was)
	if e != want {
		l.t.Fatalf("P18.2: %+v, time %d: hart %d picks %d, not %d", l.c, l.Now(), hart, e, want)
	}
}

// tick lets a tick go by.
func (l *life) tick() {
	l.t.Helper()
	list := l.lends()
	was := slices.Clone(list[:cap(list)])
	l.Tick(list)
	l.x.tick(list)
	l.asked(list, was)
}

// turns lets some become ready, or not ready.
func (l *life) turns() {
	switch l.r.Intn(12) {
	case 0:
		l.ready = chanceReady(l.r, l.Entities(), l.often)
	case 1:
		l.ready = l.all()
	case 2:
		l.ready = l.is(l.r.Intn(l.Entities()))
	default:
		e := l.r.Intn(l.Entities())
		l.ready[e] = l.r.Intn(8) < l.often
	}
}

// step is one thing that happens.
func (l *life) step() {
	l.t.Helper()
	switch k := l.r.Intn(40); {
	case k < 20:
		l.tick()
	case k < 30:
		l.picks(l.r.Intn(l.c.Harts))
	case k == 30:
		l.picks(some(l.r, numbers...))
	case k < 36:
		l.turns()
	case k == 36:
		for range l.r.Intn(2 * l.c.Period) { // long enough for credits to come to their bounds
			l.tick()
		}
	case k == 37 && l.removes && l.r.Intn(4) == 0:
		g := some(l.r, l.r.Intn(len(l.c.Guests)), some(l.r, numbers...), len(l.c.Guests))
		l.Remove(g)
		l.x.remove(g)
	}
	holds(l.t, l.world, l.x)
}

// P18.1 to P18.5: two that live by chance, side by side, as the chapter says.
func TestLives(t *testing.T) {
	count := map[string]int{}
	for seed := range int64(1000) {
		r := rand.New(rand.NewSource(seed))
		c := chanceConf(r)
		lives := []*life{newLife(t, r, c), newLife(t, r, some(r, c, chanceConf(r)))}
		for range 400 {
			lives[r.Intn(2)].step()
		}
		for _, l := range lives {
			count["credit: "+fmt.Sprint(l.c.Credit)]++
			count["lost"] += l.x.lost
			count["over"] += l.x.over
			count["robbed"] += l.x.robbed
			count["went"] += l.x.went
			count["stayed"] += l.x.stayed
			count["turned"] += l.x.turned
			count["gone"] += len(l.x.gone)
			if l.x.q < l.c.Period {
				count["gangs"]++
			}
		}
	}
	for _, k := range []string{"credit: true", "credit: false", "lost", "over", "robbed", "went", "stayed", "turned", "gone", "gangs"} {
		if count[k] < 100 {
			t.Errorf("so few of %q: %d", k, count[k])
		}
	}
}

// R3, R4: the guests that were handed in are neither written nor kept, spare room included.
func TestGuestsAreLent(t *testing.T) {
	for _, c := range both(slots(2, 2, 6, gang(2, 2), plain(3, 5), plain(1, 2))) {
		full := append(slices.Clone(c.Guests), plain(7, 7))
		lent := c
		lent.Guests = full[:3]
		w := begun(t, lent)
		if !sched.Right(lent) {
			t.Error("P18.1: it may be")
		}
		for i, g := range append(slices.Clone(c.Guests), plain(7, 7)) {
			if full[i].Vcpus != g.Vcpus || full[i].Weight != g.Weight || full[i].Gang != g.Gang {
				t.Errorf("R3: guest %d is %+v", i, full[i])
			}
			full[i] = api.GuestConf{Vcpus: 9, Weight: 9, Gang: !g.Gang}
		}
		x := reads(c)
		for range 100 {
			w.Tick(w.all())
			x.tick(w.all())
			holds(t, w, x)
		}
	}
}
