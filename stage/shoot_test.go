package stage_test

import (
	"math"
	"slices"
	"sync"
	"testing"

	"citadel/api"
	"citadel/stage"
	"citadel/tlb"
)

// notHarts are numbers of no hart, where there are so many.
func notHarts(harts int) []int {
	none := []int{-1, -2, -harts, -64, -1 << 32, math.MinInt, math.MinInt + 1, 31, 32, 63, 64, 1 << 32, 1<<32 + 1, math.MaxInt}
	for h := harts; h <= api.MaxHarts+1; h++ {
		none = append(none, h)
	}
	return none
}

// newShoot is one that must come to be.
func newShoot(t *testing.T, harts int) *stage.Shoot {
	t.Helper()
	s, e := stage.NewShoot(harts)
	if s == nil || e != api.OK {
		t.Fatalf("P10.5: NewShoot(%d) = %v, %d", harts, s, e)
	}
	return s
}

// filled is a TLB with three entries of each VMID, and of some numbers that are none.
func filled(t *testing.T) *tlb.TLB {
	t.Helper()
	x, e := tlb.New(api.MaxTLB)
	if e != api.OK {
		t.Fatal(e)
	}
	for vmid := -1; vmid <= api.MaxVmid+2; vmid++ {
		for number := range uint64(3) {
			x.Put(api.Trans{Vmid: vmid, Page: number, Frame: number + 7, Perm: rw})
		}
	}
	return x
}

// left is what stays of a filled TLB when these VMIDs are forgotten.
func left(t *testing.T, gone []int) []api.Trans {
	t.Helper()
	var list []api.Trans
	for _, e := range filled(t).Entries() {
		if !slices.Contains(gone, e.Vmid) {
			list = append(list, e)
		}
	}
	return list
}

// due fails if a hart is due anything else.
func due(t *testing.T, s *stage.Shoot, hart int, want ...int) {
	t.Helper()
	if got := s.Due(hart); !slices.Equal(got, want) {
		t.Fatalf("P10.5: Due(%d) = %v, not %v", hart, got, want)
	}
}

// idle fails if Idle is not that.
func idle(t *testing.T, s *stage.Shoot, want bool) {
	t.Helper()
	if s.Idle() != want {
		t.Fatalf("P10.5: Idle = %v", !want)
	}
}

// serves fails if Serve does not forget just these VMIDs.
func serves(t *testing.T, s *stage.Shoot, hart int, want ...int) {
	t.Helper()
	x := filled(t)
	if n := s.Serve(hart, x); n != len(want) {
		t.Fatalf("P10.5: Serve(%d) = %d, not %d", hart, n, len(want))
	}
	if got := x.Entries(); !slices.Equal(got, left(t, want)) {
		t.Fatalf("P10.5: Serve(%d) leaves %v", hart, got)
	}
}

// P10.5: harts are from 1 to MaxHarts; nothing is due at the beginning.
func TestNewShoot(t *testing.T) {
	for _, harts := range []int{0, -1, -8, api.MaxHarts + 1, api.MaxHarts + 2, 64, 1 << 32, 1<<32 + 1, -1 << 32, math.MinInt, math.MaxInt} {
		if s, e := stage.NewShoot(harts); s != nil || e != api.ErrArg {
			t.Errorf("P10.5: NewShoot(%d) = %v, %d", harts, s, e)
		}
	}
	for harts := 1; harts <= api.MaxHarts; harts++ {
		s := newShoot(t, harts)
		idle(t, s, true)
		for h := range harts {
			due(t, s, h)
			serves(t, s, h)
		}
		idle(t, s, true)
	}
}

// P10.5: each hart is due what is posted, once, and forgets just that, by its own Serve alone; it is idle when the last has served.
func TestPostAndServe(t *testing.T) {
	for harts := 1; harts <= api.MaxHarts; harts++ {
		for vmid := 1; vmid <= api.MaxVmid; vmid++ {
			for times := 1; times <= 2; times++ {
				s := newShoot(t, harts)
				for range times {
					s.Post(vmid)
				}
				for i := range harts {
					h := (i*3 + vmid) % harts
					if harts%3 == 0 {
						h = (i + vmid) % harts
					}
					idle(t, s, false)
					due(t, s, h, vmid)
					due(t, s, h, vmid)
					serves(t, s, h, vmid)
					due(t, s, h)
					serves(t, s, h)
				}
				idle(t, s, true)
			}
		}
	}
}

// P10.5: every set of VMIDs, posted rising, falling, or some twice: Due is rising.
func TestPostAnySet(t *testing.T) {
	for set := range 1 << api.MaxVmid {
		s := newShoot(t, 1+set%2)
		var want []int
		for i := range api.MaxVmid {
			vmid := i + 1
			if set%3 == 0 {
				vmid = api.MaxVmid - i
			}
			if set>>(vmid-1)&1 == 1 {
				s.Post(vmid)
				want = append(want, vmid)
				s.Post(want[0])
			}
		}
		slices.Sort(want)
		due(t, s, 0, want...)
		idle(t, s, set == 0)
		if set%61 == 0 || set == 1<<api.MaxVmid-1 {
			serves(t, s, 0, want...)
			due(t, s, 0)
			idle(t, s, set == 0 || set%2 == 0)
		}
	}
}

// P10.5: what is no VMID is not posted, on an idle one and beside others.
func TestPostOfNone(t *testing.T) {
	s := newShoot(t, 3)
	for _, vmid := range notVmids {
		s.Post(vmid)
		idle(t, s, true)
	}
	s.Post(api.MaxVmid)
	s.Post(1)
	for _, vmid := range notVmids {
		s.Post(vmid)
	}
	for h := range 3 {
		due(t, s, h, 1, api.MaxVmid)
		serves(t, s, h, 1, api.MaxVmid)
	}
	idle(t, s, true)
}

// P10.5: of no hart nothing is due, and nothing is served.
func TestNoHart(t *testing.T) {
	for harts := 1; harts <= api.MaxHarts; harts++ {
		s := newShoot(t, harts)
		for _, posted := range []bool{false, true} {
			if posted {
				s.Post(3)
			}
			for _, h := range notHarts(harts) {
				due(t, s, h)
				serves(t, s, h)
			}
			idle(t, s, !posted)
		}
		for h := range harts {
			due(t, s, h, 3)
		}
	}
}

// P10.5: what is posted between: a hart that has served is due the new one alone, one that has not is due both.
func TestPostBetween(t *testing.T) {
	s := newShoot(t, 3)
	s.Post(7)
	serves(t, s, 1, 7)
	s.Post(2)
	due(t, s, 0, 2, 7)
	due(t, s, 1, 2)
	serves(t, s, 0, 2, 7)
	s.Post(7)
	due(t, s, 0, 7)
	due(t, s, 1, 2, 7)
	due(t, s, 2, 2, 7)
	serves(t, s, 2, 2, 7)
	serves(t, s, 1, 2, 7)
	idle(t, s, false)
	serves(t, s, 0, 7)
	idle(t, s, true)
}

// P10.5: Serve counts what was due, though the TLB holds nothing of it.
func TestServeEmpty(t *testing.T) {
	s := newShoot(t, 1)
	s.Post(4)
	s.Post(9)
	x, _ := tlb.New(1)
	if n := s.Serve(0, x); n != 2 || len(x.Entries()) != 0 {
		t.Errorf("P10.5: Serve = %d", n)
	}
	idle(t, s, true)
}

// R3: what Due tells is new memory.
func TestDueIsNew(t *testing.T) {
	s := newShoot(t, 1)
	s.Post(4)
	s.Post(9)
	list := s.Due(0)
	for i := range list[:cap(list)] {
		list[:cap(list)][i] = 12
	}
	due(t, s, 0, 4, 9)
}

// R4: two have nothing in common.
func TestTwoShoots(t *testing.T) {
	a, b := newShoot(t, 2), newShoot(t, 2)
	a.Post(5)
	idle(t, b, true)
	b.Post(6)
	serves(t, a, 0, 5)
	serves(t, a, 1, 5)
	due(t, b, 0, 6)
	idle(t, a, true)
	idle(t, b, false)
}

// P10.5: the numbers are atomic: harts that serve while others post lose nothing, and count nothing twice that was posted once.
func TestPostAtOnce(t *testing.T) {
	for range 200 {
		s := newShoot(t, api.MaxHarts)
		var group sync.WaitGroup
		var served [api.MaxHarts]int
		for vmid := 1; vmid <= api.MaxVmid; vmid++ {
			group.Go(func() { s.Post(vmid) })
		}
		for h := range api.MaxHarts {
			group.Go(func() {
				x, _ := tlb.New(1)
				for range 5 {
					served[h] += s.Serve(h, x)
				}
			})
		}
		group.Wait()
		for h := range api.MaxHarts {
			if n := served[h] + len(s.Due(h)); n != api.MaxVmid {
				t.Fatalf("P10.5: of %d VMIDs that were posted hart %d was due %d", api.MaxVmid, h, n)
			}
		}
	}
}
