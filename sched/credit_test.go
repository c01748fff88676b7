package sched_test

import "testing"

// P18.2, P18.3: the chapter's example: credits are given out by weight; the first runs till its slice and its credit are
// over, the other runs on, slice by slice.
func TestCredit(t *testing.T) {
	w := begun(t, credit(1, 2, 10, plain(1, 1), plain(1, 3)))
	w.credits(2, 7)
	w.plays(w.all(), 0)
	w.credits(1, 7)
	w.plays(w.all(), 0)
	w.credits(0, 7)
	w.plays(w.all(), 1, 1, 1, 1, 1, 1, 1)
	w.credits(0, 0)
	w.ran(2, 7)
	w.charged(2, 7)
	w.plays(w.all(), 1) // neither has any, and its slice is not over
	// 10 more: parts are 2 + 10 and 2 + 30 fourths
	w.credits(3, -1+8)
}

// P18.3: of each period's Q each entity has its part by its weight and that of its home; what is left over in dividing is
// kept for the next one.
func TestPartsAddUp(t *testing.T) {
	w := begun(t, credit(2, 3, 7, gang(1, 2), plain(4, 2), plain(1, 5), plain(2, 1)))
	// hart 0 has 2, 4 and 6, of the weights 2, 2, 1; hart 1 has 1, 3, 5 and 7, of 2, 2, 5, 1.
	for k := range 40 {
		want := []int{0, 0, 0, 0, 0, 0, 0, 0}
		for e, x := range []struct{ w, sum int }{{0, 1}, {2, 10}, {2, 5}, {2, 10}, {2, 5}, {5, 10}, {1, 5}, {1, 10}} {
			want[e] = 5 * (k + 1) * x.w / x.sum
		}
		w.credits(want...)
		w.ticks(7, nil)
	}
}

// P18.3: a credit is at most Q + 2 * MaxVcpus; what is beyond is lost.
func TestMostCredit(t *testing.T) {
	w := begun(t, credit(1, 5, 12, gang(1, 2), plain(1, 1), plain(1, 1)))
	w.ticks(12*25, nil)
	w.credits(0, 130, 130)
	w.ticks(12, nil)
	w.credits(0, 135, 135)
	w.ticks(12, nil)
	w.credits(0, 138, 138)
	w.ticks(12*10, nil)
	w.credits(0, 138, 138)
	w.ticks(2, nil)
	w.plays(w.all(), 1, 1, 1, 1, 1, 2, 2, 2, 2, 2)
	w.credits(0, 138, 138) // 133 and 5, which a new period gives both
	w.ticks(2, nil)
	w.plays(w.is(1), 1, 1, 1, 1, 1, 1, 1, 1, 1)
	w.credits(0, 129, 138)
	w.plays(w.is(1), 1)
	w.credits(0, 133, 138)
}

// P18.3: a credit is at least -(Q + 2 * MaxVcpus); what is beyond is lost, so it is not paid back.
func TestLeastCredit(t *testing.T) {
	w := begun(t, credit(1, 1, 100, plain(1, 1), plain(1, 999)))
	w.credits(0, 99)
	w.ticks(100, w.is(0))
	w.credits(-100, 199)
	w.ticks(99, w.is(0))
	w.credits(-199, 199)
	w.ticks(1, w.is(0))
	w.credits(-200, 228)
	w.ticks(27, w.is(0))
	w.credits(-227, 228)
	w.ticks(1, w.is(0))
	w.credits(-228, 228)
	w.ticks(1, w.is(0))
	w.credits(-228, 228)
	w.ticks(71, w.is(0))
	w.credits(-228, 228)
	w.ran(300, 0)
	// It has a tenth of a credit a period: at the tenth time that they are given out it has one more.
	w.ticks(500, w.is(1))
	w.credits(-228, 228)
	w.ticks(100, w.is(1))
	w.credits(-227, 228)
}

// P18.2: one with a credit above 0 is ahead of all that have none, wherever it stands in the queue.
func TestCreditGoesAhead(t *testing.T) {
	w := begun(t, credit(1, 4, 8, plain(1, 1), plain(1, 1), plain(1, 6)))
	w.credits(1, 1, 6)
	w.plays(w.all(), 0, 1, 2, 2, 2, 2, 2, 2)
	w.credits(1, 1, 6)
	// The queue is 0, 1, 2: the last one had its slice once, and has used half of another.
	w.plays(w.all(), 2, 2, 0, 1, 2, 2, 2, 2)
	w.credits(1, 1, 6)
	w.plays(w.is(0, 1), 0, 1)
	// Without credit the current one runs its slice, and then the next.
	w.plays(w.is(0, 1), 1, 1, 1, 0, 0, 0)
	w.credits(-2, -2, 12)
	w.plays(w.is(0, 1), 0)
	w.plays(w.all(), 2, 2, 2, 2, 2, 2, 2)
	w.credits(-2, -1, 11)
}

// P18.2: a slice of one without credit ends where another one that is ready has some; as soon as that is not ready it
// is its turn no more.
func TestRobbed(t *testing.T) {
	w := begun(t, credit(1, 10, 100, plain(1, 1), plain(1, 1)))
	w.plays(w.is(0), make([]int, 100)...)
	w.credits(0, 100)
	w.plays(w.is(0), make([]int, 45)...)
	w.credits(-45, 100)
	w.picks(w.is(0), 0)
	w.picks(w.all(), 1)
	w.picks(w.is(0), 0)
	w.plays(w.is(0), 0)
	w.picks(w.is(0), 0)
	w.plays(w.all(), 1, 1, 1)
	w.plays(w.is(0), 0, 0)
	w.plays(w.all(), 1)
	w.credits(-48, 96)
	w.ran(148, 4)
}

// P18.2: whose slice is over goes to the end of the queue; whoever is picked instead of one that is not ready keeps its
// place.
func TestQueue(t *testing.T) {
	w := begun(t, credit(1, 2, 100, plain(1, 1), plain(1, 1), plain(1, 1)))
	w.plays(w.all(), 0, 0, 1)
	w.plays(w.is(0, 2), 2, 2, 0, 0, 2) // 1 went to the end ahead of 2
	w.plays(w.all(), 2, 1, 1, 0, 0, 2)
	w = begun(t, credit(1, 3, 100, plain(4, 1)))
	w.plays(w.but(0, 1), 2, 2) // it stays at its place, behind 0 and 1
	w.plays(w.all(), 2, 0, 0, 0, 1, 1, 1, 3, 3, 3, 2, 2, 2, 0)
	w.plays(w.but(0), 1, 1, 1, 3)
	w.plays(w.is(), -1) // 3 goes to the end, behind 0
	w.plays(w.all(), 2, 2, 2, 0, 0, 0, 1, 1, 1, 3, 3, 3, 2)
}

// P18.2: one that is alone goes on, slice by slice; one that was not ready for a moment has its whole slice anew.
func TestAlone(t *testing.T) {
	w := begun(t, credit(1, 3, 50, plain(1, 1), plain(1, 1)))
	w.plays(w.is(0), 0, 0, 0, 0)
	w.plays(w.all(), 0, 0, 1, 1)
	w.plays(w.is(), -1)
	w.plays(w.is(1), 1, 1)
	w.plays(w.all(), 1, 0, 0, 0, 1, 1)
	w.picks(w.is(), -1) // a Pick alone turns this as well
	w.plays(w.all(), 0, 0, 0, 1, 1, 1, 0)
}

// P18.2: who has its turn, with no credit at all, and a slice that is over.
func TestNobodyHasCredit(t *testing.T) {
	w := begun(t, credit(1, 2, 9, plain(1, 1), plain(1, 1), plain(7, 1000)))
	w.credits(0, 0, 1, 1, 1, 1, 1, 1, 1)
	w.plays(w.is(0, 1), 0, 0, 1, 1, 0, 0, 1, 1)
	w.credits(-4, -4, 1, 1, 1, 1, 1, 1, 1)
	w.plays(w.is(0, 1, 8), 8)
	w = begun(t, credit(1, 2, 9, plain(1, 1), plain(1, 1), plain(7, 1000)))
	w.plays(w.is(0, 1), 0)
	w.plays(w.is(0, 1, 8), 8)
	w.plays(w.is(0, 1, 8), 8) // its credit is over, its slice is not, and nobody has any
	w.plays(w.is(0, 1, 8), 1, 1, 0, 0, 8)
}

// P18.3: slots of gangs take no credit, and nothing of a slice; the current entity goes on behind them.
func TestCreditBehindGangs(t *testing.T) {
	w := begun(t, credit(2, 4, 10, plain(2, 1), gang(2, 3), plain(2, 1)))
	w.plays(w.all(), 2, 2, 2)
	w.credits(3, 3, 0, 0, 3, 3)
	w.plays(w.all(), 0, 0, 0, 4, 4, 4, 4)
	w.credits(0+4, 0+4, 0, 0, -1+4, -1+4)
	w.plays(w.is(0, 2, 4), 2, 2, 2)
	w.picks(w.all(), 0, 1)
	w.ran(3, 3, 6, 3, 4, 4)
	w.charged(6, 12, 8)
	w = begun(t, credit(1, 4, 10, gang(1, 3), plain(2, 1)))
	w.plays(w.all(), 0, 0, 0, 1, 1, 1, 2, 2)
	w.credits(0, 0, 1)
	w.plays(w.all(), 2, 2, 0, 0, 0, 1, 1, 1, 1, 2)
	w.credits(0, 0, 2)
	w = begun(t, credit(1, 4, 6, gang(1, 3), plain(2, 1)))
	w.plays(w.all(), 0, 0, 0, 1, 2, 2) // the third shared one is beyond all credits, within 2's slice
	w.credits(0, 0+2, -1+2)
	w.plays(w.all(), 0, 0, 0, 2, 1, 1)
	w.plays(w.but(2), 0, 0, 0, 1)
}
