package sched_test

import (
	"math"
	"math/rand"
	"slices"
	"testing"

	"citadel/api"
	"citadel/sched"
)

// refuses fails if a conf is taken.
func refuses(t *testing.T, c api.SchedConf) {
	t.Helper()
	for _, c := range both(c) {
		if s, e := sched.New(c); s != nil || e != api.ErrArg || sched.Right(c) {
			t.Errorf("P18.1: %+v: New: %v, %d; Right: %v", c, s, e, sched.Right(c))
		}
	}
}

// takes fails if a conf is refused, or does not begin at time 0 with so many entities.
func takes(t *testing.T, c api.SchedConf) {
	t.Helper()
	n := 0
	for _, g := range c.Guests {
		n += g.Vcpus
	}
	for _, c := range both(c) {
		s, e := sched.New(c)
		if s == nil || e != api.OK || !sched.Right(c) {
			t.Fatalf("P18.1: %+v: New: %v, %d; Right: %v", c, s, e, sched.Right(c))
		}
		if s.Now() != 0 || s.Entities() != n {
			t.Errorf("P18.1: %+v: time %d, %d entities", c, s.Now(), s.Entities())
		}
	}
}

// bounded fails if numbers from 1 to another are refused, or others are taken.
func bounded(t *testing.T, most int, with func(n int) api.SchedConf) {
	t.Helper()
	for _, n := range []int{1, 2, (1 + most) / 2, most - 1, most} {
		takes(t, with(n))
	}
	for _, n := range []int{0, -1, -2, -most, most + 1, most + 2, 2 * most, 1 << 32, 1<<32 + 1, -1<<32 + 1, math.MinInt, math.MinInt + 1, math.MaxInt} {
		refuses(t, with(n))
	}
}

// P18.1: the bounds of Harts, Slice and Period.
func TestRightOfHost(t *testing.T) {
	bounded(t, 8, func(n int) api.SchedConf { return slots(n, 2, 10, plain(1, 1)) })
	bounded(t, 1000, func(n int) api.SchedConf { return slots(1, n, 10, plain(1, 1)) })
	bounded(t, 10000, func(n int) api.SchedConf { return slots(1, 2, n, plain(1, 1)) })
}

// P18.1: the bounds of each guest's Vcpus and Weight, in each place, of a gang too; plain guests have more entities than
// there are harts.
func TestRightOfGuests(t *testing.T) {
	for n := range api.MaxGuests {
		for at := range n + 1 {
			rest := make([]api.GuestConf, n)
			for i := range rest {
				rest[i] = plain(1, 1)
			}
			bounded(t, api.MaxVcpus-n, func(k int) api.SchedConf {
				return slots(1, 2, 10, slices.Insert(slices.Clone(rest), at, plain(k, 1))...)
			})
			bounded(t, 1000, func(k int) api.SchedConf {
				return slots(1, 2, 10, slices.Insert(slices.Clone(rest), at, plain(1, k))...)
			})
			bounded(t, 1000, func(k int) api.SchedConf {
				return slots(1, 2, 10000, slices.Insert(slices.Clone(rest), at, gang(1, k))...)
			})
		}
	}
}

// P18.1: from 1 to MaxGuests guests.
func TestRightOfNumberOfGuests(t *testing.T) {
	for n := range 20 {
		var list []api.GuestConf
		for range n {
			list = append(list, plain(1, 1))
		}
		if 1 <= n && n <= 8 {
			takes(t, slots(1, 2, 10, list...))
		} else {
			refuses(t, slots(1, 2, 10, list...))
		}
	}
	refuses(t, slots(1, 2, 10, []api.GuestConf{}...))
}

// P18.1: together at most MaxVcpus entities, however great the numbers are that are added up.
func TestRightOfAllVcpus(t *testing.T) {
	takes(t, slots(1, 2, 10, plain(32, 1), plain(32, 1)))
	takes(t, slots(8, 2, 10, plain(8, 1), plain(8, 1), plain(8, 1), plain(8, 1), gang(8, 1), gang(8, 1), gang(8, 1), gang(8, 1)))
	for _, list := range [][]int{
		{32, 33}, {33, 32}, {64, 1}, {1, 64}, {8, 8, 8, 8, 8, 8, 8, 9}, {9, 8, 8, 8, 8, 8, 8, 8}, {64, 64, 64, 64, 64, 64, 64, 64},
		{1 << 62, 1 << 62, 1 << 62, 1 << 62}, {1 << 63 >> 1, 1 << 62, 1}, {math.MaxInt, math.MaxInt, 2}, {math.MaxInt, math.MaxInt, 3, 60},
		{1, math.MinInt, math.MinInt}, {10, -5}, {-5, 10}, {64, 1, -1}, {3, 0}, {0, 3},
	} {
		var guests []api.GuestConf
		for _, n := range list {
			guests = append(guests, plain(n, 1))
		}
		refuses(t, slots(1, 2, 10, guests...))
	}
}

// P18.1: a gang has at most Harts entities, as others need not.
func TestRightOfGangs(t *testing.T) {
	for harts := 1; harts <= api.MaxHarts; harts++ {
		for vcpus := 1; vcpus <= 20; vcpus++ {
			takes(t, slots(harts, 2, 10, plain(vcpus, 1)))
			for _, c := range []api.SchedConf{slots(harts, 2, 10, gang(vcpus, 1)), slots(harts, 2, 10, plain(20, 1), gang(1, 1), gang(vcpus, 1), plain(3, 4))} {
				if vcpus <= harts {
					takes(t, c)
				} else {
					refuses(t, c)
				}
			}
		}
	}
}

// P18.1: the gangs' weights are together less than Period; those of the others do not count.
func TestRightOfSlots(t *testing.T) {
	for _, list := range [][]int{{9}, {4, 5}, {1, 1, 7}, {2, 2, 2, 2, 1}} {
		var gangs, plains []api.GuestConf
		for _, w := range list {
			gangs, plains = append(gangs, gang(1, w)), append(plains, plain(1, w))
		}
		takes(t, slots(1, 2, 10, gangs...))
		refuses(t, slots(1, 2, 9, gangs...))
		refuses(t, slots(1, 2, 8, gangs...))
		takes(t, slots(1, 2, 1, plains...))
		takes(t, slots(1, 2, 10, append(gangs, plain(1, 1000))...))
		refuses(t, slots(1, 2, 10, append(gangs, plain(1, 1000), gang(1, 1))...))
	}
	refuses(t, slots(1, 2, 1, gang(1, 1)))
	takes(t, slots(1, 2, 2, gang(1, 1)))
	takes(t, slots(1, 2, 1001, gang(1, 1000)))
	refuses(t, slots(1, 2, 1000, gang(1, 1000)))
	var eight []api.GuestConf
	for range 8 {
		eight = append(eight, gang(1, 1000))
	}
	takes(t, slots(1, 2, 8001, eight...))
	refuses(t, slots(1, 2, 8000, eight...))
}

// P18.1: nothing else of the guests is looked at.
func TestRightOfTheRest(t *testing.T) {
	for _, n := range []int{0, -1, math.MinInt, math.MaxInt} {
		g := plain(2, 3)
		g.Pages, g.Devs, g.Disk, g.Image = n, []int{n, n, 9, 9}, []byte{1}, make([]byte, 5000)
		takes(t, slots(1, 2, 10, g))
		g.Gang = true
		takes(t, slots(2, 2, 10, g))
	}
}

// P18.1: confs by chance, right ones turned in one place or in two.
func TestRightByChance(t *testing.T) {
	r := rand.New(rand.NewSource(181))
	right := 0
	for range 20000 {
		c := chanceConf(r)
		c.Guests = slices.Clone(c.Guests)
		n := some(r, 0, 1, -1, 2, 7, 8, 9, 63, 64, 65, 1000, 1001, 10000, 10001, c.Period, c.Harts, 1<<62, math.MinInt, math.MaxInt)
		g := &c.Guests[r.Intn(len(c.Guests))]
		for range 1 + r.Intn(2) {
			switch r.Intn(7) {
			case 0:
				c.Harts = n
			case 1:
				c.Slice = n
			case 2:
				c.Period = n
			case 3:
				g.Vcpus = n
			case 4:
				g.Weight = n
			case 5:
				g.Gang = !g.Gang
			case 6:
				c.Guests = append(c.Guests, c.Guests...)
			}
		}
		if may(c) {
			right++
			takes(t, c)
		} else {
			refuses(t, c)
		}
	}
	if right < 2000 || right > 18000 {
		t.Errorf("so few of either: %d", right)
	}
}
