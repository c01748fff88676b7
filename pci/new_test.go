package pci_test

import (
	"math"
	"slices"
	"testing"

	"citadel/api"
	"citadel/pci"
)

// refuses fails if New takes these kinds.
func refuses(t *testing.T, kinds []int) {
	t.Helper()
	if b, e := pci.New(kinds); b != nil || e != api.ErrArg {
		t.Errorf("P12.1: New(%v) = %v, %d", kinds, b, e)
	}
}

// P12.1: no kinds, nil or empty, make a bus of no slots.
func TestNewNone(t *testing.T) {
	for _, kinds := range [][]int{nil, {}, make([]int, 0, 8)} {
		p := newPair(t, kinds...)
		p.same()
		for _, n := range append(notSlots(0), 0) {
			if k := p.b.Kind(n); k != 0 {
				t.Errorf("P12.1: Kind(%d) = %d", n, k)
			}
		}
		lost(t, p.b, 0)
	}
}

// P12.1: from one to MaxDevs slots, each of its own kind; of no slot the kind is 0.
func TestNewSlots(t *testing.T) {
	for n := 1; n <= api.MaxDevs; n++ {
		kinds := []int{}
		for i := range n {
			kinds = append(kinds, 255-17*i)
		}
		p := newPair(t, kinds...)
		if got := p.b.Slots(); got != n {
			t.Errorf("P12.1: Slots = %d, not %d", got, n)
		}
		for i, k := range kinds {
			if got := p.b.Kind(i); got != k {
				t.Errorf("P12.1: Kind(%d) = %d, not %d", i, got, k)
			}
		}
		for _, i := range notSlots(n) {
			if got := p.b.Kind(i); got != 0 {
				t.Errorf("P12.1: Kind(%d) of %d slots = %d", i, n, got)
			}
		}
		p.same()
	}
}

// P12.1: more than MaxDevs are refused, of whatever kinds.
func TestNewTooMany(t *testing.T) {
	for _, n := range []int{api.MaxDevs + 1, api.MaxDevs + 2, 2 * api.MaxDevs, 255, 256, 257, 5000} {
		kinds := make([]int, n)
		refuses(t, kinds)
		kinds[n-1] = -1
		refuses(t, kinds)
		kinds[n-1] = 255
		refuses(t, kinds)
	}
}

// P12.1: each kind from 0 to 255 is taken, all in one slot and as the last of many, and the same one twice.
func TestNewKinds(t *testing.T) {
	for k := range 256 {
		for _, kinds := range [][]int{{k}, {k, k}, {1, 2, 3, 4, 5, 6, 7, k}, {k, 0, 255, 0, 255, 0, 255, 0}} {
			p := newPair(t, kinds...)
			for i, want := range kinds {
				if got := p.b.Kind(i); got != want {
					t.Errorf("P12.1: New(%v): Kind(%d) = %d", kinds, i, got)
				}
			}
			p.bytes()
		}
	}
}

// P12.1: a kind that is none is refused, alone and at each place among good ones.
func TestNewNotKinds(t *testing.T) {
	for _, bad := range notKinds {
		for n := 1; n <= api.MaxDevs; n++ {
			for at := range n {
				kinds := []int{0, 255, 1, 2, 3, 8, 254, 128}[:n]
				kinds[at] = bad
				refuses(t, kinds)
			}
		}
	}
	refuses(t, []int{-1, 256})
	refuses(t, []int{math.MinInt, math.MaxInt})
}

// R3: the kinds that are handed in are not changed, nor their spare room, and not kept.
func TestNewKeepsNothing(t *testing.T) {
	all := []int{2, 3, 255, 7, 7, 7, 7, 7, 7, 7}
	kinds := all[:3]
	p := newPair(t, kinds...)
	direct, e := pci.New(kinds)
	if e != api.OK || !slices.Equal(all, []int{2, 3, 255, 7, 7, 7, 7, 7, 7, 7}) {
		t.Errorf("R3: %d, %v", e, all)
	}
	for i := range all {
		all[i] = 99
	}
	q := &pair{t: t, b: direct, c: p.c}
	q.same()
	for i := range all {
		all[i] = -1
	}
	q.same()
	for _, bad := range [][]int{{1, -1, 7}, {256}, make([]int, 9)} {
		was := slices.Clone(bad)
		refuses(t, bad)
		if !slices.Equal(bad, was) {
			t.Errorf("R3: %v became %v", was, bad)
		}
	}
}
