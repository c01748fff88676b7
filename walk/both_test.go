package walk_test

import (
	"slices"
	"testing"

	"citadel/api"
	"citadel/ram"
	"citadel/walk"
)

const (
	size = api.PageSize
	leaf = api.PteV | api.PteR | api.PteW | api.PteX | api.PteA | api.PteD
	// va is an address whose three entries have three numbers.
	va = 3<<30 | 2<<21 | 1<<12 | 0x128
	// far is how far from where the guest has them pages lie.
	far = 16 * size
)

// asked is what a second stage was asked for.
type asked struct {
	gpa    uint64
	access int
}

// tables are a guest's, of the levels 2, 1 and 0 in its pages 4, 5 and 6, which lie far from there.
func tables(t *testing.T) *ram.RAM {
	t.Helper()
	m, e := ram.New(0, 32)
	if e != api.OK {
		t.Fatal("no memory")
	}
	m.Write(far+4*size+8*3, 8, 5<<10|api.PteV)
	m.Write(far+5*size+8*2, 8, 6<<10|api.PteV)
	m.Write(far+6*size+8*1, 8, 7<<10|leaf)
	return m
}

// walked is all that a walk of va asks for.
func walked(access int) []asked {
	return []asked{{4*size + 8*3, api.Load}, {5*size + 8*2, api.Load}, {6*size + 8*1, api.Load}, {7*size + 0x128, access}}
}

// P4.2: the second stage is whoever is asked: once for each entry of the first, as a Load, and last for the address itself.
func TestBothAsks(t *testing.T) {
	m := tables(t)
	for _, access := range []int{api.Fetch, api.Load, api.Store} {
		var list []asked
		ask := func(gpa uint64, access int) (uint64, int) {
			list = append(list, asked{gpa, access})
			return gpa + far, api.FaultNone
		}
		for _, root := range []uint64{0, 1, 1 << 60} { // what stands there is not looked at
			list = nil
			p := walk.Both(m, api.Env{Satp: 8<<60 | 4, Root: root}, va, access, ask)
			if want := (api.Place{PA: far + 7*size + 0x128, GPA: 7*size + 0x128}); p != want {
				t.Errorf("Both comes to %+v, not %+v", p, want)
			}
			if !slices.Equal(list, walked(access)) {
				t.Errorf("Both asks for %v, not %v", list, walked(access))
			}
		}
		list = nil
		walk.Both(m, api.Env{}, va, access, ask)
		if !slices.Equal(list, []asked{{va, access}}) {
			t.Errorf("without tables Both asks for %v", list)
		}
	}
}

// P4.2: what whoever is asked tells as a fault is told, at each place; nothing is asked behind it.
func TestBothTellsFaults(t *testing.T) {
	m := tables(t)
	for _, fault := range []int{api.FaultGuest, api.FaultBus} {
		for n, last := range walked(api.Store) {
			count := 0
			p := walk.Both(m, api.Env{Satp: 8<<60 | 4}, va, api.Store, func(gpa uint64, access int) (uint64, int) {
				if count++; gpa == last.gpa {
					return 0, fault
				}
				return gpa + far, api.FaultNone
			})
			if want := (api.Place{GPA: last.gpa, Fault: fault, Walk: n < 3}); p != want || count != n+1 {
				t.Errorf("Both comes to %+v behind %d answers, not %+v behind %d", p, count, want, n+1)
			}
		}
	}
}

// P4.2: where nobody need be asked nobody is.
func TestBothAsksNobody(t *testing.T) {
	for _, e := range []api.Env{{Satp: 1 << 60}, {Satp: 9<<60 | 4}, {Satp: ^uint64(0)}} {
		p := walk.Both(tables(t), e, va, api.Load, func(uint64, int) (uint64, int) {
			t.Error("somebody was asked")
			return 0, api.FaultNone
		})
		if p != (api.Place{Fault: api.FaultPage}) {
			t.Errorf("Both comes to %+v", p)
		}
	}
}
