package vcpu_test

import (
	"fmt"
	"math/rand"
	"slices"
	"testing"

	"citadel/api"
	"citadel/hart"
	"citadel/vcpu"
)

// life are a guest's virtual harts that live by chance, beside what the chapter says of them.
type life struct {
	t        *testing.T
	r        *rand.Rand
	vs, want []api.Vcpu
	now      uint64
	external []bool
	count    map[string]int
}

// newLife is one of a seed.
func newLife(t *testing.T, seed int64) *life {
	r := rand.New(rand.NewSource(seed))
	n := 1 + r.Intn(6)
	l := &life{t: t, r: r, external: make([]bool, n), count: map[string]int{}}
	l.begin(n)
	return l
}

// begin lets so many begin.
func (l *life) begin(n int) {
	pc := uint64(base + l.r.Intn(16))
	l.vs, l.want = vcpu.Begin(n, pc), make([]api.Vcpu, n)
	l.want[0] = api.Vcpu{State: api.Running, Hart: reset(pc, 0, 0)}
}

// over tells whether none runs, and none is let wait for anything.
func (l *life) over() bool {
	for _, v := range l.vs {
		if v.State == api.Running || v.State == api.Waiting && v.Hart.Sie&^2 != 0 {
			return false
		}
	}
	return true
}

// ready asks what number i is up to now, and keeps it.
func (l *life) ready(i int) {
	was := l.vs[i].State
	l.vs[i] = vcpu.Ready(l.vs[i], l.now, l.external[i])
	l.want[i] = ready(l.want[i], l.now, l.external[i])
	if was == api.Waiting {
		l.count[fmt.Sprintf("of waiting %d", l.vs[i].State)]++
	}
}

// runs lets the hart of number i do something by itself.
func (l *life) runs(i int) {
	h := l.vs[i].Hart
	switch l.r.Intn(3) {
	case 0:
		h, _ = hart.Write(h, 0x104, some(l.r, interrupts()...))
	case 1:
		h, _ = hart.Write(h, 0x144, some[uint64](l.r, 0, 2, 0, ones))
	case 2:
		h.Reserved, h.Reservation = true, base+uint64(l.r.Intn(16))
	}
	l.vs[i].Hart, l.want[i].Hart = h, h
}

// stores lets number i store somewhere.
func (l *life) stores(i int) {
	at := base + uint64(l.r.Intn(16))
	before := reservations(l.vs)
	l.vs, l.want = wrote(l.t, l.vs, i, at), taken(l.want, i, at)
	l.count[fmt.Sprintf("fewer reservations: %v", reservations(l.vs) < before)]++
}

// reservations are how many stand.
func reservations(vs []api.Vcpu) int {
	n := 0
	for _, v := range vs {
		if v.Hart.Reserved {
			n++
		}
	}
	return n
}

// asks is a call by number i, mostly one by which others come to live.
func (l *life) asks(vs []api.Vcpu, i int) {
	n := uint64(l.r.Intn(len(vs) + 1))
	switch l.r.Intn(12) {
	case 0, 1, 2, 3:
		ask{0x48534d, 0, n, base + uint64(l.r.Intn(16)), l.r.Uint64()}.by(vs, i)
	case 4, 5:
		ask{0x48534d, 2, n, l.r.Uint64(), l.r.Uint64()}.by(vs, i)
	case 6, 7:
		ask{0x54494d45, 0, l.now + uint64(l.r.Intn(6)), l.r.Uint64(), l.r.Uint64()}.by(vs, i)
	case 8, 9:
		ask{0x735049, 0, l.r.Uint64(), some(l.r, 0, n, ones, -n), l.r.Uint64()}.by(vs, i)
	default:
		chanceCall(l.r, vs, i)
	}
}

// calls lets number i make a call.
func (l *life) calls(i int) {
	vs := append([]api.Vcpu{}, l.vs...)
	l.asks(vs, i)
	next, out, down := called(l.t, vs, i)
	want, wantOut, wantDown := read(vs, i)
	if string(out) != string(wantOut) || down != wantDown {
		l.t.Errorf("P17.3: out %v, down %v, not %v, %v", out, down, wantOut, wantDown)
	}
	l.vs, l.want = next, want
	if x := vs[i].Hart.X; slices.Contains(kinds, x[17]) && x[16] < 4 {
		err := ""
		if e := -int64(next[i].Hart.X[10]); e > 0 && e < 7 {
			err = fmt.Sprintf(", error %d", e)
		}
		l.count[fmt.Sprintf("kind %#x, function %d%s", x[17], x[16], err)]++
	}
}

// step is one thing that happens.
func (l *life) step() {
	i := l.r.Intn(len(l.vs))
	if l.over() && l.r.Intn(4) == 0 {
		l.begin(len(l.vs))
	}
	l.ready(i)
	switch k := l.r.Intn(8); {
	case k == 0:
		l.now++
	case k == 1:
		l.external[i] = !l.external[i]
	case l.vs[i].State != api.Running:
	case k == 2 && (l.vs[i].Hart.Sie != 0 || l.r.Intn(8) == 0):
		l.vs[i], l.want[i].State = vcpu.Wait(l.vs[i]), api.Waiting
	case k == 3:
		l.stores(i)
	case k == 4:
		l.calls(i)
	default:
		l.runs(i)
	}
}

// P17.1 to P17.4: virtual harts live by chance as the chapter says.
func TestLives(t *testing.T) {
	count := map[string]int{}
	for seed := range int64(600) {
		l := newLife(t, seed)
		for range 300 {
			l.step()
			sameAll(t, fmt.Sprintf("life %d", seed), l.vs, l.want)
			if t.Failed() {
				t.FailNow()
			}
		}
		for k, n := range l.count {
			count[k] += n
		}
	}
	for _, k := range []string{
		"of waiting 1", "of waiting 2", "fewer reservations: true", "fewer reservations: false", "kind 0x10, function 0", "kind 0x10, function 3",
		"kind 0x54494d45, function 0", "kind 0x1, function 0", "kind 0x735049, function 0", "kind 0x48534d, function 0",
		"kind 0x48534d, function 0, error 3", "kind 0x48534d, function 0, error 6", "kind 0x48534d, function 1",
		"kind 0x48534d, function 2", "kind 0x48534d, function 2, error 3", "kind 0x53525354, function 0",
	} {
		if count[k] < 20 {
			t.Errorf("so few of %q: %d", k, count[k])
		}
	}
}
