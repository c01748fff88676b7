package vcpu_test

import (
	"math/rand"
	"testing"

	"citadel/api"
	"citadel/vcpu"
)

// interrupts are all that Sie and Sip may have, of the bits 1, 5 and 9.
func interrupts() []uint64 {
	var list []uint64
	for i := range uint64(8) {
		list = append(list, i&1<<1|i>>1&1<<5|i>>2<<9)
	}
	return list
}

// ready is P17.2 read out.
func ready(v api.Vcpu, now uint64, external bool) api.Vcpu {
	v.Hart = ordered(v.Hart)
	sip := v.Hart.Sip % 32
	if v.Armed && !(now < v.Deadline) {
		sip += 32
	}
	if external {
		sip += 512
	}
	v.Hart.Sip = sip
	if v.State == api.Waiting {
		for _, b := range []int{1, 5, 9} {
			if sip>>b&1 == 1 && v.Hart.Sie>>b&1 == 1 {
				v.State = api.Running
			}
		}
	}
	return v
}

// P17.2: Sip's bit 5 is whether the clock is armed and its deadline is not ahead; it goes again, too.
func TestReadyClock(t *testing.T) {
	for _, deadline := range edges {
		for _, now := range append(edges, deadline-1, deadline, deadline+1) {
			for _, was := range []uint64{0, 1 << 5} {
				for _, armed := range []bool{false, true} {
					v := sample()
					v.Armed, v.Deadline, v.Hart.Sip = armed, deadline, was
					want := v
					want.Hart.Sip = 0
					if armed && now >= deadline {
						want.Hart.Sip = 1 << 5
					}
					same(t, "P17.2", vcpu.Ready(v, now, false), want)
				}
			}
		}
	}
}

// P17.2: Sip's bit 9 is external; bit 1 stays; no other bit stays.
func TestReadyBits(t *testing.T) {
	for _, x := range []struct {
		was      uint64
		external bool
		want     uint64
	}{
		{0, false, 0}, {0, true, 0x200}, {0x200, false, 0}, {0x200, true, 0x200}, {2, false, 2}, {2, true, 0x202},
		{0x222, false, 2}, {0x222, true, 0x202}, {0x20, false, 0}, {ones, false, 2}, {ones, true, 0x202},
		{ones - 2, false, 0}, {ones - 2, true, 0x200}, {1, false, 0}, {1 << 63, true, 0x200}, {0x444, false, 0}, {1 << 33, false, 0},
	} {
		for _, state := range []int{api.Stopped, api.Running} {
			v := sample()
			v.State, v.Armed, v.Hart.Sip = state, false, x.was
			want := v
			want.Hart.Sip = x.want
			same(t, "P17.2", vcpu.Ready(v, ones, x.external), want)
		}
	}
}

// P17.2: one that waits runs, if an interrupt is there that it lets, whether or not its hart takes it; no other state is
// left, and none that is not Waiting.
func TestReadyWakes(t *testing.T) {
	for _, state := range states {
		for _, sip := range interrupts() {
			for _, sie := range interrupts() {
				for i := range 4 {
					v := sample()
					v.State, v.Hart.Sip, v.Hart.Sie = state, sip&2, sie
					v.Armed, v.Deadline = sip&0x20 != 0, 9
					v.Hart.On, v.Hart.User = i&1 != 0, i&2 != 0
					want := v
					want.Hart.Sip = sip
					if state == api.Waiting && sip&sie != 0 {
						want.State = api.Running
					}
					same(t, "P17.2", vcpu.Ready(v, 9, sip&0x200 != 0), want)
				}
			}
		}
	}
}

// P17.2: an interrupt that was there and is not any more wakes nobody, nor one that is of no kind.
func TestReadyIsUpToNow(t *testing.T) {
	v := sample()
	v.State, v.Hart.Sip, v.Hart.Sie = api.Waiting, ones-2, ones
	for _, external := range []bool{false, true} {
		v.Armed, v.Deadline = !external, 10
		if g := vcpu.Ready(v, 9, false); g.State != api.Waiting || g.Hart.Sip != 0 {
			t.Errorf("P17.2: State %d, Sip %#x", g.State, g.Hart.Sip)
		}
		if g := vcpu.Ready(v, 10, external); g.State != api.Running {
			t.Errorf("P17.2: State %d, Sip %#x", g.State, g.Hart.Sip)
		}
	}
}

// P17.2: the hart is brought in order, whatever its state; nothing else of it turns.
func TestReadyInOrder(t *testing.T) {
	for _, v := range several() {
		for _, state := range states {
			for _, external := range []bool{false, true} {
				v.State = state
				g := vcpu.Ready(v, v.Deadline, external)
				same(t, "P17.2", g, ready(v, v.Deadline, external))
				if g.Hart != ordered(g.Hart) {
					t.Error("P17.2: the hart is not in order")
				}
				same(t, "P17.2", vcpu.Ready(g, v.Deadline, external), g)
			}
		}
	}
}

// P17.2: by chance, against the chapter read out.
func TestReadyByChance(t *testing.T) {
	r := rand.New(rand.NewSource(17))
	for range 20000 {
		v := chance(r)
		now, external := some(r, v.Deadline, some(r, edges...), v.Deadline-1), r.Intn(2) == 0
		same(t, "P17.2", vcpu.Ready(v, now, external), ready(v, now, external))
	}
}

// P17.2: one that was Running waits; no other state is left, and nothing else turns.
func TestWait(t *testing.T) {
	for _, v := range several() {
		for _, state := range states {
			v.State = state
			want := v
			if state == api.Running {
				want.State = api.Waiting
			}
			same(t, "P17.2", vcpu.Wait(v), want)
		}
	}
}
