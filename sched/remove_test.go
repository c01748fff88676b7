package sched_test

import "testing"

// P18.4: a guest that was removed is never ready; partitioned its turns stay, and are charged to it.
func TestRemoveFromSlots(t *testing.T) {
	w := begun(t, slots(1, 2, 10, plain(1, 1), plain(1, 1)))
	w.plays(w.all(), 0, 0, 1)
	w.Remove(1)
	w.plays(w.all(), -1, 0, 0, -1, -1)
	w.ran(4, 1)
	w.charged(4, 4)
	w.Remove(1)
	w.plays(w.all(), 0, 0, -1, -1)
	w.Remove(0)
	w.plays(w.all(), -1, -1, -1, -1)
	w.ran(6, 1)
	w.charged(8, 8)
}

// P18.4: a gang's slot stays; it is charged on, and nobody runs in it.
func TestRemoveGang(t *testing.T) {
	for _, c := range both(slots(2, 2, 6, gang(2, 2), gang(1, 1), plain(2, 1))) {
		w := begun(t, c)
		w.Tick(w.all())
		w.Remove(0)
		for range 2 {
			w.picks(w.all(), -1, -1)
			w.Tick(w.all())
			w.picks(w.all(), 2, -1)
			w.Tick(w.all())
			for range 3 {
				w.picks(w.all(), 4, 3)
				w.Tick(w.all())
			}
			w.picks(w.all(), -1, -1)
			w.Tick(w.all())
		}
		w.ran(1, 1, 2, 6, 6)
		w.charged(10, 4, 12)
	}
}

// P18.4: by credit those that were removed have no part: the weights of a home are without them, on each hart.
func TestRemoveFromParts(t *testing.T) {
	w := begun(t, credit(2, 2, 12, plain(2, 1), plain(3, 2), plain(2, 3)))
	// hart 0 has 0, 2, 4 and 6, of the weights 1, 2, 2, 3; hart 1 has 1, 3 and 5, of 1, 2, 3.
	w.credits(1, 2, 3, 4, 3, 6, 4)
	w.Remove(1)
	w.credits(1, 2, 3, 4, 3, 6, 4)
	w.ticks(12, nil)
	// parts: of 0 its 4 eighths are fourths now: 4 + 12 of them; of 6 4 + 36; of 1 12, of 5 36.
	w.credits(1+4, 2+3, 3, 4, 3, 6+9, 4+10)
	w.Remove(0)
	w.Remove(2)
	was := w.tells()
	w.ticks(120, w.all())
	is := w.tells()
	if was.now += 120; !was.same(is) {
		t.Errorf("P18.4: %+v, not %+v", is, was)
	}
}

// P18.4: they leave their queues: those that stay keep their order, and who is current goes on.
func TestRemoveFromQueues(t *testing.T) {
	four := credit(1, 3, 100, plain(1, 1), plain(1, 1), plain(1, 1), plain(1, 1))
	w := begun(t, four)
	w.plays(w.all(), 0, 0, 0, 1, 1)
	w.Remove(2)
	w.plays(w.all(), 1, 3, 3, 3, 0)
	w = begun(t, four)
	w.plays(w.all(), 0, 0, 0, 1, 1)
	w.Remove(1) // the current one
	w.plays(w.all(), 2, 2, 2, 3, 3, 3, 0, 0, 0, 2)
	w.ran(6, 2, 4, 3)
	w = begun(t, four)
	w.plays(w.all(), 0)
	w.Remove(0)
	w.plays(w.is(0), -1)
	w.plays(w.all(), 1, 1, 1, 2)
	w.Remove(1)
	w.Remove(3)
	w.plays(w.all(), 2, 2, 2, 2, 2, 2)
	w.Remove(2)
	w.plays(w.all(), -1, -1)
	w.ran(1, 3, 7, 0)
	w.charged(1, 3, 7, 0)
}

// P18.4: one that was removed robs nobody of its turn by its credit.
func TestRemovedRobsNobody(t *testing.T) {
	w := begun(t, credit(1, 10, 10, plain(1, 1), plain(1, 9), plain(1, 1)))
	w.plays(w.is(0), 0, 0, 0, 0, 0, 0, 0, 0)
	w.Remove(1)
	w.credits(-8, 8, 0)
	w.plays(w.all(), 0, 0, 2)
}

// P18.4: a guest that is none is not removed, and turns nothing.
func TestRemoveNone(t *testing.T) {
	for _, c := range both(slots(1, 2, 10, plain(1, 1), gang(1, 2), plain(1, 1))) {
		w, x := begun(t, c), reads(c)
		for i := range 40 {
			for _, g := range append(numbers, 3, 4, 7, 8) {
				w.Remove(g)
			}
			if i%3 == 0 {
				w.Tick(w.all())
				x.tick(w.all())
			}
			holds(t, w, x)
		}
	}
}
