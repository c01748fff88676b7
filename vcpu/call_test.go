package vcpu_test

import (
	"fmt"
	"testing"

	"citadel/api"
	"citadel/vcpu"
)

// Errors of calls.
const (
	none     = 1<<64 - 2
	argument = 1<<64 - 3
	already  = 1<<64 - 6
)

// group are so many virtual harts, of which some are stopped, some run, some wait.
func group(n int) []api.Vcpu {
	vs := make([]api.Vcpu, n)
	for i := range vs {
		vs[i] = sample()
		vs[i].State = i % 3
		vs[i].Hart.Scause = uint64(i)
	}
	return vs
}

// tells holds a call by number i against what it must tell it, and nothing else.
func tells(t *testing.T, vs []api.Vcpu, i int, k ask, err, value uint64) {
	t.Helper()
	k.by(vs, i)
	want := append([]api.Vcpu{}, vs...)
	h := &want[i].Hart
	h.PC += 4
	h.X[10], h.X[11] = err, value
	next, out, down := called(t, vs, i)
	sameAll(t, fmt.Sprintf("P17.3: %+v", k), next, want)
	if len(out) != 0 || down {
		t.Errorf("P17.3: %+v: out %v, down %v", k, out, down)
	}
}

// P17.3: the version, whatever the arguments.
func TestVersion(t *testing.T) {
	for _, a := range edges {
		tells(t, group(3), 1, ask{0x10, 0, a, a, a}, 0, 0x02000000)
	}
}

// P17.3: which kinds there are: those of the table, and no number near them.
func TestProbe(t *testing.T) {
	for _, k := range kinds {
		tells(t, group(3), 1, ask{0x10, 3, k, 9, 9}, 0, 1)
		for bit := range 64 {
			tells(t, group(3), 1, ask{0x10, 3, k ^ 1<<bit, 9, 9}, 0, 0)
		}
		for _, other := range []uint64{k + 1, k - 1, k + 3, -k, ^k} {
			tells(t, group(3), 1, ask{0x10, 3, other, 9, 9}, 0, 0)
		}
	}
	for _, a := range edges {
		want := uint64(0)
		if a == 1 || a == 16 {
			want = 1
		}
		tells(t, group(3), 1, ask{0x10, 3, a, 9, 9}, 0, want)
	}
}

// functions are those that each kind has; any, where it has all.
var functions = []struct {
	kind uint64
	any  bool
	fns  []uint64
}{
	{kind: 0x10, fns: []uint64{0, 3}}, {kind: 0x54494d45, fns: []uint64{0}}, {kind: 1, any: true, fns: []uint64{0, 6}}, {kind: 0x735049, fns: []uint64{0}},
	{kind: 0x48534d, fns: []uint64{0, 1, 2}}, {kind: 0x53525354, fns: []uint64{0}},
}

// P17.3: a function that a kind does not have is none; all 64 bits count.
func TestOtherFunctions(t *testing.T) {
	for _, x := range functions {
		if x.any {
			continue
		}
		there := map[uint64]bool{}
		for _, fn := range x.fns {
			there[fn] = true
		}
		for _, fn := range append(edges, 6, 1<<32|2, 1<<32|3, 1<<63|2, 1<<63|3, ones-3) {
			if !there[fn] {
				tells(t, group(3), 1, ask{x.kind, fn, 0, 1, 2}, none, 0)
			}
		}
		for _, fn := range x.fns {
			for bit := range 64 {
				if other := fn ^ 1<<bit; !there[other] {
					tells(t, group(3), 1, ask{x.kind, other, 0, 1, 2}, none, 0)
				}
			}
		}
	}
}

// P17.3: a kind that is none is none, by any function; all 64 bits count.
func TestOtherKinds(t *testing.T) {
	there := map[uint64]bool{}
	for _, k := range kinds {
		there[k] = true
	}
	others := []uint64{0, 2, 3, 4, 5, 6, 7, 8, 15, 17, 0x52464e43, 0x48534e, 0x735048, 0x4442434e, ones, ones - 1}
	for _, k := range kinds {
		for bit := range 64 {
			others = append(others, k^1<<bit)
		}
	}
	for _, k := range others {
		for _, fn := range []uint64{0, 1, 2, 3, ones} {
			if !there[k] {
				tells(t, group(3), 1, ask{k, fn, 0, 1, 2}, none, 0)
			}
		}
	}
}

// P17.3: the clock is armed, whatever it was before; its interrupt goes, the others stay.
func TestArm(t *testing.T) {
	for _, at := range edges {
		for _, sip := range interrupts() {
			for _, armed := range []bool{false, true} {
				vs := group(3)
				for n := range vs {
					vs[n].Armed, vs[n].Hart.Sip = armed, sip
				}
				ask{0x54494d45, 0, at, 7, 8}.by(vs, 1)
				want := append([]api.Vcpu{}, vs...)
				v := &want[1]
				v.Armed, v.Deadline = true, at
				v.Hart.Sip = sip &^ 0x20
				v.Hart.PC += 4
				v.Hart.X[10], v.Hart.X[11] = 0, 0
				next, out, down := called(t, vs, 1)
				sameAll(t, "P17.3", next, want)
				if len(out) != 0 || down {
					t.Errorf("P17.3: out %v, down %v", out, down)
				}
			}
		}
	}
}

// P17.3: the low byte goes out by any function, the error is 0, X[11] stays.
func TestPut(t *testing.T) {
	fns := append([]uint64{6, 10, 1<<32 | 3, ones - 3}, edges...)
	for i, fn := range fns {
		for c := range uint64(256) {
			vs := group(3)
			k := ask{1, fn, c | fn<<8, edges[i%len(edges)], 9}
			k.by(vs, 1)
			want := append([]api.Vcpu{}, vs...)
			want[1].Hart.PC += 4
			want[1].Hart.X[10] = 0
			next, out, down := called(t, vs, 1)
			sameAll(t, "P17.3", next, want)
			if string(out) != string([]byte{byte(c)}) || down {
				t.Fatalf("P17.3: %+v: out %v, down %v", k, out, down)
			}
		}
	}
}

// interrupted is who of n is interrupted by a call.
func interrupted(t *testing.T, n, i int, mask, from uint64) []int {
	t.Helper()
	vs := make([]api.Vcpu, n)
	for k := range vs {
		vs[k] = sample()
		vs[k].State, vs[k].Hart.Sip = k%3, uint64(k%2)<<9
	}
	k := ask{0x735049, 0, mask, from, 5}
	k.by(vs, i)
	next, out, down := called(t, vs, i)
	if len(out) != 0 || down {
		t.Errorf("P17.3: %+v: out %v, down %v", k, out, down)
	}
	var who []int
	for k := range next {
		want := vs[k]
		if k == i {
			want.Hart.PC += 4
			want.Hart.X[10], want.Hart.X[11] = 0, 0
		}
		if next[k].Hart.Sip&2 != 0 {
			who = append(who, k)
			want.Hart.Sip |= 2
		}
		same(t, "P17.3", next[k], want)
	}
	return who
}

// upTo are the numbers from a number on, below another.
func upTo(from, end int) []int {
	var list []int
	for i := from; i < end; i++ {
		list = append(list, i)
	}
	return list
}

// P17.3: who is interrupted: those that are bits of the mask from a number on, the caller and stopped ones too; numbers
// go round behind the last; all ones stand for everyone.
func TestSend(t *testing.T) {
	for _, x := range []struct {
		n          int
		mask, from uint64
		want       []int
	}{
		{3, 5, 0, []int{0, 2}}, {3, 0, 0, nil}, {3, 7, 0, upTo(0, 3)}, {3, ones, 0, upTo(0, 3)}, {3, 8, 0, nil}, {3, 1 << 63, 0, nil},
		{3, 1, 1, []int{1}}, {3, 1, 2, []int{2}}, {3, 1, 3, nil}, {3, ones, 3, nil}, {3, ones, 2, []int{2}}, {3, 3, 1, []int{1, 2}},
		{3, 0, ones, upTo(0, 3)}, {3, 5, ones, upTo(0, 3)}, {3, ones, ones, upTo(0, 3)}, {64, 0, ones, upTo(0, 64)}, {130, 0, ones, upTo(0, 130)},
		{3, ones, ones - 1, upTo(0, 3)}, {3, 1, ones - 1, nil}, {3, 4, ones - 1, []int{0}}, {3, 8, ones - 1, []int{1}}, {3, 3, ones - 1, nil},
		{3, 1 << 63, ones - 62, []int{0}}, {3, 1 << 63, ones - 61, []int{1}}, {3, ones, ones - 62, []int{0}}, {3, ones, ones - 63, nil},
		{64, ones, 0, upTo(0, 64)}, {64, 1 << 63, 0, []int{63}}, {64, 1, 63, []int{63}}, {64, ones, 63, []int{63}}, {64, ones, 64, nil},
		{65, ones, 0, upTo(0, 64)}, {65, ones, 1, upTo(1, 65)}, {130, ones, 66, upTo(66, 130)}, {130, ones, 60, upTo(60, 124)},
		{3, ones, 1 << 32, nil}, {3, ones, 1 << 63, nil}, {3, ones, 1<<32 - 1, nil}, {8, 0xf0, ones - 1, []int{2, 3, 4, 5}},
	} {
		for _, i := range []int{0, 1, x.n - 1} {
			who := interrupted(t, x.n, i, x.mask, x.from)
			if fmt.Sprint(who) != fmt.Sprint(x.want) {
				t.Errorf("P17.3: of %d, by %#x from %#x: %v, not %v", x.n, x.mask, x.from, who, x.want)
			}
		}
	}
}

// P17.3: each bit of the mask, from each number on.
func TestSendBits(t *testing.T) {
	for bit := range 64 {
		for from := -64; from < 66; from++ {
			want := from + bit
			who := interrupted(t, 64, 5, 1<<bit, uint64(from))
			if from == -1 {
				if len(who) != 64 {
					t.Fatalf("P17.3: by all ones: %v", who)
				}
				continue
			}
			if there := want >= 0 && want < 64; len(who) > 1 || there != (len(who) == 1) || there && who[0] != want {
				t.Fatalf("P17.3: bit %d from %d: %v", bit, from, who)
			}
		}
	}
}

// P17.3: a stopped hart begins anew; its clock is not armed any more, and it keeps nothing.
func TestStart(t *testing.T) {
	for _, pc := range append(edges, base+3) {
		for _, a1 := range edges {
			for _, n := range []uint64{0, 3, 6} {
				vs := group(7)
				vs[n].Hart.Reserved, vs[n].Hart.User = true, true
				ask{0x48534d, 0, n, pc, a1}.by(vs, 4)
				want := append([]api.Vcpu{}, vs...)
				want[n] = api.Vcpu{State: api.Running, Hart: reset(pc, n, a1)}
				want[4].Hart.PC += 4
				want[4].Hart.X[10], want[4].Hart.X[11] = 0, 0
				next, out, down := called(t, vs, 4)
				sameAll(t, "P17.3", next, want)
				if len(out) != 0 || down {
					t.Errorf("P17.3: out %v, down %v", out, down)
				}
			}
		}
	}
}

// P17.3: one that is not stopped is not begun again, whatever else it is, and turns in nothing.
func TestStartAlready(t *testing.T) {
	for _, state := range states {
		if state == api.Stopped {
			continue
		}
		for n := range uint64(3) {
			vs := group(3)
			vs[n].State = state
			vs[1].State = api.Running
			tells(t, vs, 1, ask{0x48534d, 0, n, base, 9}, already, 0)
		}
	}
}

// P17.3: a hart that is not there is neither begun nor asked after.
func TestNoSuchHart(t *testing.T) {
	for _, n := range lists {
		for _, a := range append(edges, uint64(n), uint64(n)+1, 1<<32|uint64(n-1), 1<<63|uint64(n-1), -uint64(n)) {
			if a < uint64(n) {
				continue
			}
			for _, i := range []int{0, n - 1} {
				for _, fn := range []uint64{0, 2} {
					tells(t, group(n), i, ask{0x48534d, fn, a, base, 9}, argument, 0)
				}
			}
		}
	}
}

// P17.3: a hart is asked after: 1 if it is stopped, else 0; by itself too.
func TestStopped(t *testing.T) {
	for _, state := range states {
		for n := range uint64(3) {
			vs := group(3)
			vs[n].State = state
			value := uint64(0)
			if state == api.Stopped {
				value = 1
			}
			tells(t, vs, 1, ask{0x48534d, 2, n, 9, 9}, 0, value)
		}
	}
}

// P17.3: number i is stopped; its registers, its PC, its clock and all others stay.
func TestStop(t *testing.T) {
	for _, state := range states {
		for i := range 3 {
			for _, a := range []uint64{0, 1, 2, 3, ones} {
				vs := group(3)
				vs[i].State = state
				ask{0x48534d, 1, a, a, a}.by(vs, i)
				want := append([]api.Vcpu{}, vs...)
				want[i].State = api.Stopped
				next, out, down := called(t, vs, i)
				sameAll(t, "P17.3", next, want)
				if len(out) != 0 || down {
					t.Errorf("P17.3: out %v, down %v", out, down)
				}
			}
		}
	}
}

// P17.3: all are stopped, whatever they were; all else of them stays; down is told.
func TestDown(t *testing.T) {
	for _, n := range lists {
		for _, i := range []int{0, n / 2, n - 1} {
			for _, a := range []uint64{0, 1, ones} {
				vs := make([]api.Vcpu, n)
				for k := range vs {
					vs[k] = sample()
					vs[k].State = states[(k+i)%len(states)]
				}
				ask{0x53525354, 0, a, a, a}.by(vs, i)
				want := append([]api.Vcpu{}, vs...)
				for k := range want {
					want[k].State = api.Stopped
				}
				next, out, down := called(t, vs, i)
				sameAll(t, "P17.3", next, want)
				if len(out) != 0 || !down {
					t.Errorf("P17.3: out %v, down %v", out, down)
				}
			}
		}
	}
}

// P17.3: what is told of number i comes last: of one that was stopped and begins itself, behind its beginning.
func TestStartItself(t *testing.T) {
	vs := group(4)
	ask{0x48534d, 0, 3, base + 0x1001, 7}.by(vs, 3)
	want := append([]api.Vcpu{}, vs...)
	want[3] = api.Vcpu{State: api.Running, Hart: reset(base+0x1004, 0, 0)}
	next, out, down := called(t, vs, 3)
	sameAll(t, "P17.3", next, want)
	if len(out) != 0 || down {
		t.Errorf("P17.3: out %v, down %v", out, down)
	}
}

// P17.3: PC goes round behind the last address.
func TestCallAtTheEnd(t *testing.T) {
	for pc, want := range map[uint64]uint64{ones - 3: 0, ones - 1: 2, ones: 2, ones - 2: 0, 0: 4, 1: 4, base + 1: base + 4} {
		for _, k := range []ask{{kind: 0x10}, {kind: 1}, {kind: 2}, {kind: 0x54494d45}, {0x48534d, 0, 9, 0, 0}} {
			vs := group(2)
			k.by(vs, 1)
			vs[1].Hart.PC = pc
			if next, _, _ := called(t, vs, 1); next[1].Hart.PC != want {
				t.Errorf("P17.3: %+v at %#x: PC %#x, not %#x", k, pc, next[1].Hart.PC, want)
			}
		}
	}
}

// P17.3: of an i that is none they are as they are, not even brought in order; nothing else is told.
func TestCallByNobody(t *testing.T) {
	for _, k := range append([]ask{{kind: 1, a: 65}, {kind: 0x53525354}, {kind: 0x48534d, fn: 1}}, ask{}) {
		for _, n := range lists {
			vs := group(n)
			for i := range vs {
				k.by(vs, i)
				vs[i].Hart.X[0], vs[i].Hart.PC, vs[i].Hart.Sip = 9, 3, ones
			}
			for _, i := range append(indexes, n, n+1) {
				next, out, down := called(t, vs, i)
				sameAll(t, "P17.3", next, vs)
				if len(out) != 0 || down {
					t.Errorf("P17.3: Call(%d of %d): out %v, down %v", i, n, out, down)
				}
			}
		}
	}
	for _, i := range append(indexes, 0, 1) {
		next, out, down := vcpu.Call(nil, i)
		again, _, _ := vcpu.Call([]api.Vcpu{}, i)
		if len(next) != 0 || len(again) != 0 || len(out) != 0 || down {
			t.Errorf("P17.3: Call(%d of none): %d, %v, %v", i, len(next), out, down)
		}
	}
}

// P17.3: all harts are brought in order, whatever the call; those that stay as they were too.
func TestCallInOrder(t *testing.T) {
	for _, x := range functions {
		for _, fn := range append(x.fns, 7) {
			for _, a := range []uint64{0, 1, 2, 9, ones} {
				for i := range 3 {
					vs := []api.Vcpu{disordered(), turned(disordered()), disordered()}
					vs[0].State, vs[2].State = api.Stopped, api.Waiting
					ask{x.kind, fn, a, 1, 2}.by(vs, i)
					holds(t, vs, i)
					next, _, _ := called(t, vs, i)
					for n, v := range next {
						if v.Hart != ordered(v.Hart) {
							t.Errorf("P17.3: %#x, %d by %d: number %d is not in order", x.kind, fn, i, n)
						}
					}
				}
			}
		}
	}
}

// P17.3: each row with arguments at their edges, by each of several, against the chapter read out.
func TestCallEdges(t *testing.T) {
	for _, n := range []int{1, 5} {
		for _, x := range functions {
			for _, fn := range append(x.fns, 1, 7) {
				for _, a := range edges {
					for _, b := range edges {
						vs := group(n)
						ask{x.kind, fn, a, b, a ^ b}.by(vs, n/2)
						holds(t, vs, n/2)
					}
				}
			}
		}
	}
}

// R4: out is new memory each time.
func TestOutIsNew(t *testing.T) {
	vs := group(2)
	ask{kind: 1, a: 65}.by(vs, 1)
	_, out, _ := vcpu.Call(vs, 1)
	spare := out[:cap(out)]
	for i := range spare {
		spare[i] = 9
	}
	if _, again, _ := vcpu.Call(vs, 1); string(again) != "A" {
		t.Errorf("R4: out %q", again)
	}
}
