package sched_test

import (
	"math/rand"
	"testing"

	"citadel/api"
)

// P18.2: the plain entities of a home have Slice shared ticks each, in turn, from one period into the next.
func TestSlots(t *testing.T) {
	w := begun(t, slots(1, 2, 10, plain(1, 1), plain(1, 9)))
	w.plays(w.all(), 0, 0, 1, 1, 0, 0, 1, 1, 0, 0, 1, 1, 0, 0)
	w.ran(8, 6)
	w.charged(8, 6)
	w.credits(0, 0)
	w = begun(t, slots(1, 3, 4, plain(3, 1)))
	w.plays(w.all(), 0, 0, 0, 1, 1, 1, 2, 2, 2, 0, 0, 0, 1, 1, 1, 2)
	w = begun(t, slots(1, 1, 1, plain(3, 1)))
	w.plays(w.all(), 0, 1, 2, 0, 1, 2, 0)
	w = begun(t, slots(1, 1000, 7, plain(2, 1)))
	w.ticks(999, w.all())
	w.plays(w.all(), 0, 1)
	w.ticks(998, w.all())
	w.plays(w.all(), 1, 0)
	w.ran(1001, 1000)
}

// P18.2: each hart has the turns of its own home, those with fewer entities come round sooner; a hart without any picks
// none.
func TestSlotsOfHarts(t *testing.T) {
	w := begun(t, slots(3, 2, 10, plain(4, 1), plain(1, 1)))
	for _, x := range [][]int{{0, 1, 2}, {0, 1, 2}, {3, 4, 2}, {3, 4, 2}, {0, 1, 2}, {0, 1, 2}, {3, 4, 2}} {
		w.picks(w.all(), x...)
		w.Tick(w.all())
	}
	w.ran(4, 4, 7, 3, 3)
	w.charged(18, 3)
	w = begun(t, slots(4, 2, 10, plain(1, 1), plain(1, 1)))
	for range 12 {
		w.picks(w.all(), 0, 1, -1, -1)
		w.Tick(w.all())
	}
	w.ran(12, 12)
	w.charged(12, 12)
}

// P18.2, P18.3: one that is not ready keeps its turn, which its guest is charged; nobody runs in it.
func TestSlotsOfOneThatIsNotReady(t *testing.T) {
	w := begun(t, slots(1, 2, 10, plain(1, 1), plain(1, 1)))
	w.plays(w.is(1), -1, -1, 1, 1)
	w.plays(w.is(0), 0, 0, -1, -1)
	w.plays(w.is(), -1, -1, -1)
	w.ran(2, 2)
	w.charged(6, 5)
	w.plays(w.is(0), -1)
	w.plays(w.all(), 0)
	w.plays(w.is(1), -1)
	w.ran(3, 2)
	w.charged(8, 6)
}

// P18.2: behind gangs' slots turns go on where they were; their ticks are no turn's.
func TestSlotsBehindGangs(t *testing.T) {
	w := begun(t, slots(1, 2, 10, gang(1, 3), plain(1, 1), plain(1, 1)))
	w.plays(w.all(), 0, 0, 0, 1, 1, 2, 2, 1, 1, 2, 0, 0, 0, 2, 1, 1, 2, 2, 1, 1, 0, 0, 0, 2, 2, 1)
	w.ran(9, 9, 8)
	w = begun(t, slots(1, 2, 4, gang(1, 3), plain(2, 1)))
	for range 4 {
		w.plays(w.all(), 0, 0, 0, 1, 0, 0, 0, 1, 0, 0, 0, 2, 0, 0, 0, 2)
	}
	w.ran(48, 8, 8)
	w.charged(48, 16)
}

// P18.2: a list that is short says of those beyond it that they are not ready; what is beyond the entities counts for
// nothing.
func TestShortAndLongLists(t *testing.T) {
	w := begun(t, slots(1, 1, 10, gang(1, 1), plain(3, 1)))
	yes := make([]bool, 70)
	for i := range yes {
		yes[i] = true
	}
	for n := range yes {
		for w.Now()%30 != 0 {
			w.Tick(nil)
		}
		for _, e := range []int{0, 1, 2, 3} {
			want := e
			if e >= n {
				want = -1
			}
			w.picks(yes[:n], want)
			w.plays(yes[:n:n], want)
		}
	}
	w = begun(t, credit(1, 1, 100, plain(3, 1)))
	w.plays(yes[:0], -1, -1)
	w.plays(nil, -1, -1)
	w.plays(yes[:1], 0, 0, 0)
	w.plays(yes[:2], 1, 0, 1, 0)
	w.plays(yes[:3], 2, 1, 0, 2)
	w.plays(yes, 1, 0, 2)
}

// P18.2: no hart picks none, and turns nothing by it.
func TestPickOfNoHart(t *testing.T) {
	for harts := 1; harts <= 4; harts++ {
		for _, c := range both(slots(harts, 3, 7, plain(9, 2), gang(1, 2))) {
			w, x := begun(t, c), reads(c)
			for range 40 {
				was := w.tells()
				for _, hart := range append(numbers, harts, harts+1, 8, 9, 63) {
					if e := w.Pick(hart, w.all()); e != -1 {
						t.Errorf("P18.2: of %d harts %d picks %d", harts, hart, e)
					}
				}
				if !w.tells().same(was) {
					t.Errorf("P18.2: time %d: %+v, not %+v", w.Now(), w.tells(), was)
				}
				for hart := range harts {
					w.Pick(hart, w.all())
				}
				w.Tick(w.all())
				x.tick(w.all())
			}
			holds(t, w, x)
		}
	}
}

// P18.6: what a hart runs hangs on the time and that entity's own readiness alone, whatever was ready, and picked, before.
func TestSlotsHangOnTimeAlone(t *testing.T) {
	r := rand.New(rand.NewSource(186))
	for range 200 {
		c := chanceConf(r)
		c.Credit = false
		w, other := begun(t, c), begun(t, c)
		for range 200 {
			ready := chanceReady(r, w.Entities(), r.Intn(9))
			for hart := range c.Harts {
				turn := other.Pick(hart, other.all())
				want := turn
				if turn != -1 && !ready[turn] {
					want = -1
				}
				if e := w.Pick(hart, ready); e != want {
					t.Fatalf("P18.6: %+v, time %d: hart %d picks %d, not %d", c, w.Now(), hart, e, want)
				}
			}
			w.Tick(ready)
			other.Tick(other.all())
			for g := range c.Guests {
				if w.Charged(g) != other.Charged(g) {
					t.Fatalf("P18.3: %+v, time %d: guest %d was charged %d, not %d", c, w.Now(), g, w.Charged(g), other.Charged(g))
				}
			}
		}
	}
}

// P18.2, P18.3: in a gang's slot its entities run on the harts of their indexes, and it is charged for all harts.
func TestGangRuns(t *testing.T) {
	for _, c := range both(slots(4, 2, 10, plain(3, 1), gang(3, 2), gang(4, 1), plain(4, 1))) {
		w := begun(t, c)
		for range 2 {
			w.picks(w.all(), 3, 4, 5, -1)
			w.Tick(w.all())
		}
		w.charged(0, 8, 0, 0)
		w.ran(0, 0, 0, 2, 2, 2, 0, 0, 0, 0, 0, 0, 0, 0)
		w.picks(w.all(), 6, 7, 8, 9)
		w.picks(w.but(7, 9), 6, -1, 8, -1)
		w.picks(w.is(0, 1, 2, 3, 4, 5, 10, 11, 12), -1, -1, -1, -1)
		w.Tick(w.is(7))
		w.charged(0, 8, 4, 0)
		w.ran(0, 0, 0, 2, 2, 2, 0, 1, 0, 0, 0, 0, 0, 0)
		w.picks(w.all(), 0, 1, 2, 11)
		w.ticks(7, nil)
		was := w.tells()
		w.Tick(nil)
		w.Tick(w.is(4, 5))
		is := w.tells()
		if is.charged[1] != was.charged[1]+8 || is.ran[3] != was.ran[3] || is.ran[4] != was.ran[4]+1 || is.ran[5] != was.ran[5]+1 {
			t.Errorf("P18.3: %+v behind %+v", is, was)
		}
	}
}

// P18.2: the gang's entities alone run, though its home would be another one's by number; gangs alone, too.
func TestGangsAlone(t *testing.T) {
	for _, c := range both(slots(8, 2, 9, gang(8, 3), gang(1, 2), gang(8, 3))) {
		w := begun(t, c)
		for range 30 {
			switch w.Gang() {
			case 0:
				w.picks(w.all(), 0, 1, 2, 3, 4, 5, 6, 7)
			case 1:
				w.picks(w.all(), 8, -1, -1, -1, -1, -1, -1, -1)
			case 2:
				w.picks(w.all(), 9, 10, 11, 12, 13, 14, 15, 16)
			default:
				w.picks(w.all(), -1, -1, -1, -1, -1, -1, -1, -1)
			}
			w.Tick(w.all())
		}
		w.charged(12*8, 6*8, 9*8)
		for e := range w.Entities() {
			if w.Credit(e) != 0 {
				t.Errorf("P18.3: a gang's entity %d has %d", e, w.Credit(e))
			}
		}
	}
	w := begun(t, credit(1, 2, api.MaxFrame, gang(1, 1000)))
	w.ticks(3*api.MaxFrame, w.all())
	w.charged(3000)
	w.credits(0)
}
