package vcpu_test

import (
	"fmt"
	"math"
	"math/rand"
	"reflect"
	"slices"
	"strings"
	"testing"

	"citadel/api"
	"citadel/vcpu"
)

const (
	base = api.RamBase
	ones = math.MaxUint64
)

// edges are numbers at the ends of something, and some beside them.
var edges = []uint64{
	0, 1, 2, 3, 4, 5, 7, 8, 9, 16, 31, 32, 33, 62, 63, 64, 65, 127, 128, 255, 256, 1<<31 - 1, 1 << 31, 1<<32 - 1, 1 << 32, 1<<32 | 1,
	base, base + 1, base + 0x1002, 1<<63 - 1, 1 << 63, 1<<63 | 1, ones - 64, ones - 63, ones - 62, ones - 7, ones - 2, ones - 1, ones,
}

// states are those that a virtual hart may be in, and some that are none.
var states = []int{api.Stopped, api.Running, api.Waiting, 3, 4, -1, -2, 1 << 32, 1<<32 | api.Waiting, math.MinInt, math.MaxInt}

// indexes are numbers of no virtual hart, however many there are.
var indexes = []int{-1, -2, -64, 1 << 20, 1 << 32, math.MinInt, math.MinInt + 1, math.MaxInt}

// lists are how many virtual harts a list may have; more than a guest has are taken too.
var lists = []int{1, 2, 3, 8, api.MaxVcpus - 1, api.MaxVcpus, api.MaxVcpus + 1, 130}

// sample is a virtual hart no two of whose fields are alike, so that what stays can be told from what goes.
func sample() api.Vcpu {
	h := api.Hart{
		PC: base + 0x40, On: true, Spp: true, Sum: true, Reserved: true,
		Stvec: 0x7001, Sscratch: 0x51, Sepc: 0x52, Scause: 0x53, Stval: 0x54,
		Sie: 0x202, Sip: 0x022, Satp: 0x55, Reservation: 0x56,
	}
	for i := range h.X {
		h.X[i] = uint64(i) * 0x1122_3344_5566_7789
	}
	return api.Vcpu{Hart: h, State: api.Running, Armed: true, Deadline: 0x57}
}

// disordered is the sample with all in it that must be 0.
func disordered() api.Vcpu {
	v := sample()
	h := &v.Hart
	h.X[0] = 0xf00d_f00d_f00d_f00d
	h.PC |= 1
	h.Sepc |= 1
	h.Stvec |= 2
	h.Sie, h.Sip = ones, ones-1<<1
	return v
}

// turned is a virtual hart with all its flags turned.
func turned(v api.Vcpu) api.Vcpu {
	h := &v.Hart
	h.User, h.On, h.Spie, h.Spp = !h.User, !h.On, !h.Spie, !h.Spp
	h.Sum, h.Mxr, h.Reserved = !h.Sum, !h.Mxr, !h.Reserved
	v.Armed = !v.Armed
	return v
}

// several are virtual harts of all sorts.
func several() []api.Vcpu {
	list := []api.Vcpu{{}, sample(), disordered(), turned(sample()), turned(disordered())}
	for _, state := range states {
		v := sample()
		v.State = state
		list = append(list, v)
	}
	return list
}

// ordered is a hart brought in order, as layer 6 says it.
func ordered(h api.Hart) api.Hart {
	h.X[0] = 0
	h.PC -= h.PC % 2
	h.Sepc -= h.Sepc % 2
	h.Stvec &= ones - 2
	h.Sie &= 1<<1 + 1<<5 + 1<<9
	h.Sip &= 1<<1 + 1<<5 + 1<<9
	return h
}

// reset is a hart at its beginning, as layer 6 says it.
func reset(pc, a0, a1 uint64) api.Hart {
	h := api.Hart{PC: pc - pc%2}
	h.X[10], h.X[11] = a0, a1
	return h
}

// some is one of a list.
func some[T any](r *rand.Rand, list ...T) T { return list[r.Intn(len(list))] }

// chance is a virtual hart by chance.
func chance(r *rand.Rand) api.Vcpu {
	flag := func() bool { return r.Intn(2) == 0 }
	word := func() uint64 { return some(r, some(r, edges...), r.Uint64()) }
	bits := func() uint64 { return some(r, 0, 1<<1, 1<<5, 1<<9, 0x222, r.Uint64()) }
	h := api.Hart{
		PC: word(), User: flag(), On: flag(), Spie: flag(), Spp: flag(), Sum: flag(), Mxr: flag(), Reserved: flag(),
		Stvec: word(), Sscratch: word(), Sepc: word(), Scause: word(), Stval: word(),
		Sie: bits(), Sip: bits(), Satp: word(), Reservation: base + uint64(r.Intn(32)),
	}
	for i := range h.X {
		h.X[i] = word()
	}
	state := some(r, api.Stopped, api.Stopped, api.Running, api.Waiting, some(r, states...))
	return api.Vcpu{Hart: h, State: state, Armed: flag(), Deadline: word()}
}

// crowd are so many virtual harts by chance.
func crowd(r *rand.Rand, n int) []api.Vcpu {
	vs := make([]api.Vcpu, n)
	for i := range vs {
		vs[i] = chance(r)
	}
	return vs
}

// unlike tells in which fields two virtual harts are unlike.
func unlike(got, want api.Vcpu) string {
	fields := differ(reflect.ValueOf(got), reflect.ValueOf(want))
	return strings.Join(append(fields, differ(reflect.ValueOf(got.Hart), reflect.ValueOf(want.Hart))...), "; ")
}

// differ are the fields, other than the hart, by which two structs differ.
func differ(g, w reflect.Value) []string {
	var fields []string
	for i := range g.NumField() {
		name := g.Type().Field(i).Name
		if a, b := g.Field(i).Interface(), w.Field(i).Interface(); a != b && name != "Hart" {
			fields = append(fields, fmt.Sprintf("%s = %#v, not %#v", name, a, b))
		}
	}
	return fields
}

// same fails if a virtual hart is not what it must be.
func same(t *testing.T, promise string, got, want api.Vcpu) {
	t.Helper()
	if got != want {
		t.Errorf("%s: %s", promise, unlike(got, want))
	}
}

// sameAll fails if virtual harts are not what they must be.
func sameAll(t *testing.T, promise string, got, want []api.Vcpu) {
	t.Helper()
	if len(got) != len(want) {
		t.Fatalf("%s: %d virtual harts, not %d", promise, len(got), len(want))
	}
	for i := range got {
		same(t, fmt.Sprintf("%s: number %d", promise, i), got[i], want[i])
	}
}

// lent is a list with spare room in which something stands, too.
type lent struct {
	all, was []api.Vcpu
	n        int
}

// lend lends a list.
func lend(vs []api.Vcpu) lent {
	all := append(slices.Clone(vs), disordered(), disordered())
	return lent{all, slices.Clone(all), len(vs)}
}

// list is what is handed in.
func (l lent) list() []api.Vcpu { return l.all[:l.n] }

// untouched fails if what was lent is changed, or shares memory with the answer.
func (l lent) untouched(t *testing.T, answer []api.Vcpu) {
	t.Helper()
	if !slices.Equal(l.all, l.was) {
		t.Error("R3: the list that was handed in is changed")
	}
	spare := answer[:cap(answer)]
	for i := range spare {
		spare[i] = api.Vcpu{Deadline: 0xbad}
	}
	if !slices.Equal(l.all, l.was) {
		t.Error("R3: the answer shares memory with the list that was handed in")
	}
}

// wrote is Wrote, with what is handed in lent.
func wrote(t *testing.T, vs []api.Vcpu, i int, gpa uint64) []api.Vcpu {
	t.Helper()
	l := lend(vs)
	next := vcpu.Wrote(l.list(), i, gpa)
	kept := slices.Clone(next)
	l.untouched(t, next)
	return kept
}

// called is Call, with what is handed in lent.
func called(t *testing.T, vs []api.Vcpu, i int) ([]api.Vcpu, []byte, bool) {
	t.Helper()
	l := lend(vs)
	next, out, down := vcpu.Call(l.list(), i)
	kept := slices.Clone(next)
	l.untouched(t, next)
	return kept, out, down
}
