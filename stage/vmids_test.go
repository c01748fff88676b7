package stage_test

import (
	"testing"

	"citadel/api"
	"citadel/stage"
)

// takes fails if Take does not give that VMID; 0: if it gives one.
func takes(t *testing.T, v *stage.Vmids, want int) {
	t.Helper()
	wants := api.OK
	if want == 0 {
		wants = api.ErrVmid
	}
	if id, e := v.Take(); id != want || e != wants {
		t.Fatalf("P10.1: Take() = %d, %d, not %d, %d", id, e, want, wants)
	}
}

// gives fails if Give does not answer that.
func gives(t *testing.T, v *stage.Vmids, id int, want api.Errno) {
	t.Helper()
	if e := v.Give(id); e != want {
		t.Fatalf("P10.1: Give(%d) = %d, not %d", id, e, want)
	}
}

// P10.1: VMIDs are 1 to MaxVmid, the lowest first; then there is none, as often as one asks.
func TestTakeAll(t *testing.T) {
	v := stage.NewVmids()
	for id := 1; id <= api.MaxVmid; id++ {
		takes(t, v, id)
	}
	for range 3 {
		takes(t, v, 0)
	}
	gives(t, v, api.MaxVmid, api.OK)
	takes(t, v, api.MaxVmid)
	takes(t, v, 0)
	gives(t, v, 1, api.OK)
	takes(t, v, 1)
	takes(t, v, 0)
}

// P10.1: whichever are given back, in whichever order, are taken again, rising.
func TestGiveAnySet(t *testing.T) {
	for set := range 1 << api.MaxVmid {
		v := stage.NewVmids()
		for range api.MaxVmid {
			v.Take()
		}
		for i := range api.MaxVmid {
			id := i + 1
			if set%2 == 1 {
				id = api.MaxVmid - i
			}
			if set>>(id-1)&1 == 1 {
				gives(t, v, id, api.OK)
			}
		}
		for id := 1; id <= api.MaxVmid; id++ {
			if set>>(id-1)&1 == 1 {
				takes(t, v, id)
			}
		}
		takes(t, v, 0)
	}
}

// P10.1: one that is not taken is not given back: none at all, one that was never taken, one that was given back; nothing changes then.
func TestGiveRefused(t *testing.T) {
	v := stage.NewVmids()
	for id := -1; id <= api.MaxVmid+1; id++ {
		gives(t, v, id, api.ErrArg)
	}
	takes(t, v, 1)
	takes(t, v, 2)
	takes(t, v, 3)
	for _, id := range append(notVmids, 4, 5, api.MaxVmid) {
		gives(t, v, id, api.ErrArg)
	}
	gives(t, v, 2, api.OK)
	gives(t, v, 2, api.ErrArg)
	gives(t, v, 2, api.ErrArg)
	takes(t, v, 2)
	gives(t, v, 2, api.OK)
	gives(t, v, 1, api.OK)
	gives(t, v, 1, api.ErrArg)
	takes(t, v, 1)
	takes(t, v, 2)
	takes(t, v, 4)
}

// R4: two have nothing in common.
func TestTwoVmids(t *testing.T) {
	a, b := stage.NewVmids(), stage.NewVmids()
	takes(t, a, 1)
	takes(t, a, 2)
	takes(t, b, 1)
	gives(t, b, 2, api.ErrArg)
	gives(t, b, 1, api.OK)
	takes(t, a, 3)
	gives(t, a, 1, api.OK)
	gives(t, b, 1, api.ErrArg)
}
