package vcpu_test

import (
	"math/rand"
	"slices"
	"testing"

	"citadel/api"
	"citadel/vcpu"
)

// named are the numbers of which the table says that a call by number i turns something, beside i's own.
func named(vs []api.Vcpu, i int) []int {
	x := vs[i].Hart.X
	k := ask{x[17], x[16], x[10], x[11], x[12]}
	var list []int
	for n := range vs {
		r := reading{ask: k}
		sent := k.kind == 0x735049 && k.fn == 0 && r.meant(n)
		begun := k.kind == 0x48534d && k.fn == 0 && k.a == uint64(n)
		if sent || begun || k.kind == 0x53525354 && k.fn == 0 {
			list = append(list, n)
		}
	}
	return list
}

// chanceCall lets number i make a call by chance, mostly one that there is.
func chanceCall(r *rand.Rand, vs []api.Vcpu, i int) {
	x := some(r, functions...)
	fn := some(r, append(x.fns, r.Uint64())...)
	a := some(r, r.Uint64(), some(r, edges...), some(r, kinds...))
	if small := uint64(r.Intn(len(vs) + 1)); x.kind == 0x48534d && r.Intn(4) > 0 {
		a = small
	}
	b := some(r, uint64(r.Intn(len(vs)+1)), r.Uint64(), some(r, edges...))
	k := ask{x.kind, fn, a, b, r.Uint64()}
	if r.Intn(16) == 0 {
		k.kind = some(r, r.Uint64(), some(r, edges...), k.kind^1<<r.Intn(64))
	}
	k.by(vs, i)
}

// P17.4: a call turns no hart but i's and those that the table names, and lets none that waits run.
func TestCallTurnsNoOther(t *testing.T) {
	r := rand.New(rand.NewSource(17))
	for range 20000 {
		vs := crowd(r, 1+r.Intn(8))
		for n := range vs {
			vs[n].Hart = ordered(vs[n].Hart)
		}
		i := r.Intn(len(vs))
		chanceCall(r, vs, i)
		may := append(named(vs, i), i)
		next, _, _ := called(t, vs, i)
		for n, v := range next {
			if !slices.Contains(may, n) {
				same(t, "P17.4", v, vs[n])
			}
			if vs[n].State == api.Waiting && v.State == api.Running {
				t.Errorf("P17.4: a call lets number %d run, which waited", n)
			}
		}
		holds(t, vs, i)
	}
}

// P17.3: calls by chance of virtual harts of all sorts, in no order too, in lists of all lengths.
func TestCallByChance(t *testing.T) {
	r := rand.New(rand.NewSource(18))
	for range 4000 {
		vs := crowd(r, some(r, append(lists, 1+r.Intn(8))...))
		i := r.Intn(len(vs))
		chanceCall(r, vs, i)
		holds(t, vs, i)
	}
}

// P17.4: one that waits is let run by Ready alone, and by that only when an interrupt that it lets has come.
func TestWaitsForAnInterrupt(t *testing.T) {
	r := rand.New(rand.NewSource(19))
	for range 20000 {
		v := chance(r)
		v.State = api.Waiting
		now, external := some(r, v.Deadline, some(r, edges...), v.Deadline-1), r.Intn(2) == 0
		g := vcpu.Ready(v, now, external)
		timer, outside, soft := v.Armed && now >= v.Deadline, external, v.Hart.Sip&2 != 0
		sie := v.Hart.Sie
		come := timer && sie&0x20 != 0 || outside && sie&0x200 != 0 || soft && sie&2 != 0
		if (g.State == api.Running) != come || !come && g.State != api.Waiting {
			t.Errorf("P17.4: State %d, Sie %#x, timer %v, external %v, software %v", g.State, sie, timer, outside, soft)
		}
		if vcpu.Wait(v) != v || vcpu.Wrote([]api.Vcpu{v}, 1, 0)[0].State != api.Waiting {
			t.Error("P17.4: it is let run, or stopped, by no Ready")
		}
	}
}
