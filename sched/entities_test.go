package sched_test

import (
	"testing"

	"citadel/api"
)

// P18.1: entities are numbered through, guest by guest, gangs among the others; homes of gangs' entities are their
// indexes, those of the others their numbers modulo Harts.
func TestEntities(t *testing.T) {
	for harts := 3; harts <= api.MaxHarts; harts++ {
		for _, c := range both(slots(harts, 2, 10, plain(5, 1), gang(3, 2), plain(1, 1), gang(1, 1), gang(2, 1), plain(30, 9), plain(22, 1))) {
			w, e := begun(t, c), 0
			for g, x := range c.Guests {
				for i := range x.Vcpus {
					if guest, index := w.Guest(e); guest != g || index != i {
						t.Errorf("P18.1: Guest(%d) = %d, %d, not %d, %d", e, guest, index, g, i)
					}
					home := e % harts
					if x.Gang {
						home = i
					}
					if w.Home(e) != home {
						t.Errorf("P18.1: of %d harts Home(%d) = %d, not %d", harts, e, w.Home(e), home)
					}
					e++
				}
			}
			if w.Entities() != 64 || e != 64 {
				t.Errorf("P18.1: %d entities, not %d", w.Entities(), e)
			}
		}
	}
}

// P18.1, P18.5: of no entity, and of no guest.
func TestOfNone(t *testing.T) {
	for n := 1; n <= 4; n++ {
		for _, c := range both(slots(2, 2, 10, plain(1, 1), gang(1, 2), plain(n, 3))) {
			w := begun(t, c)
			w.ticks(25, w.all())
			for _, e := range append(numbers, n+2, n+3) {
				if guest, index := w.Guest(e); guest != -1 || index != -1 {
					t.Errorf("P18.1: Guest(%d) = %d, %d", e, guest, index)
				}
				if w.Home(e) != -1 || w.Ran(e) != 0 || w.Credit(e) != 0 {
					t.Errorf("P18.5: %d is at home at %d, ran %d, has %d", e, w.Home(e), w.Ran(e), w.Credit(e))
				}
			}
			for _, g := range append(numbers, 3, 4, 7, 8) {
				if w.Charged(g) != 0 {
					t.Errorf("P18.5: Charged(%d) = %d", g, w.Charged(g))
				}
			}
		}
	}
}

// P18.1: whose slot it is: each gang's, in the guests' order, at the beginning of each period; nobody's in the rest.
func TestGang(t *testing.T) {
	for _, c := range both(slots(2, 3, 12, plain(3, 100), gang(1, 2), gang(2, 1), plain(1, 1), gang(1, 4))) {
		w := begun(t, c)
		for period := range 5 {
			if period == 2 {
				w.Remove(2)
				w.Remove(0)
			}
			for i, g := range []int{1, 1, 2, 4, 4, 4, 4, -1, -1, -1, -1, -1} {
				if w.Gang() != g || w.Now() != uint64(12*period+i) {
					t.Errorf("P18.1: tick %d of period %d: Gang %d, Now %d", i, period, w.Gang(), w.Now())
				}
				w.Tick(w.all())
			}
		}
	}
}

// P18.1: a period that is all shared, and one of which all but one tick are gangs'.
func TestGangAtTheEnds(t *testing.T) {
	for _, c := range both(slots(1, 1, 3, plain(1, 1000), plain(2, 1))) {
		w := begun(t, c)
		for range 10 {
			if w.Gang() != -1 {
				t.Errorf("P18.1: time %d: Gang %d", w.Now(), w.Gang())
			}
			w.Tick(nil)
		}
	}
	for _, c := range both(slots(1, 1, 10000, gang(1, 1000), gang(1, 999), gang(1, 1000), gang(1, 1000), gang(1, 1000), gang(1, 1000), gang(1, 1000), gang(1, 1000))) {
		w := begun(t, c)
		for _, x := range []struct{ ticks, gang int }{{0, 0}, {999, 0}, {1, 1}, {998, 1}, {1, 2}, {999, 2}, {1, 3}, {3999, 6}, {1, 7}, {999, 7}, {1, -1}, {2000, -1}, {1, 0}} {
			w.ticks(x.ticks, nil)
			if w.Gang() != x.gang {
				t.Errorf("P18.1: time %d: Gang %d, not %d", w.Now(), w.Gang(), x.gang)
			}
		}
	}
}
