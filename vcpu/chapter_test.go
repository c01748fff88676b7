package vcpu_test

import (
	"bytes"
	"fmt"
	"math/big"
	"testing"

	"citadel/api"
)

// ask is a call: its kind, its function, its arguments.
type ask struct{ kind, fn, a, b, c uint64 }

// kinds are those of the chapter's table.
var kinds = []uint64{0x10, 0x54494d45, 1, 0x735049, 0x48534d, 0x53525354}

// by lets number i make a call.
func (k ask) by(vs []api.Vcpu, i int) {
	x := &vs[i].Hart.X
	x[17], x[16], x[10], x[11], x[12] = k.kind, k.fn, k.a, k.b, k.c
}

// read is what a call comes to: P17.3 read out, row by row.
func read(vs []api.Vcpu, i int) (next []api.Vcpu, out []byte, down bool) {
	next = append([]api.Vcpu{}, vs...)
	if i < 0 || i >= len(vs) {
		return next, nil, false
	}
	for n := range next {
		next[n].Hart = ordered(vs[n].Hart)
	}
	x := vs[i].Hart.X
	r := reading{vs: next, i: i, ask: ask{x[17], x[16], x[10], x[11], x[12]}}
	switch {
	case r.kind == 0x10:
		r.base()
	case r.kind == 0x54494d45 && r.fn == 0:
		next[i].Armed, next[i].Deadline = true, r.a
		if next[i].Hart.Sip&0x20 != 0 {
			next[i].Hart.Sip -= 0x20
		}
	case r.kind == 1:
		out, r.value = []byte{byte(r.a % 256)}, r.b
	case r.kind == 0x735049 && r.fn == 0:
		for n := range next {
			if r.meant(n) {
				next[n].Hart.Sip |= 2
			}
		}
	case r.kind == 0x48534d:
		r.harts()
	case r.kind == 0x53525354 && r.fn == 0:
		for n := range next {
			next[n].State = 0
		}
		return next, nil, true
	default:
		r.err = -2
	}
	if !r.silent {
		next[i].Hart.PC += 4
		next[i].Hart.X[10], next[i].Hart.X[11] = uint64(int64(r.err)), r.value
	}
	return next, out, false
}

// reading is a call that is read out.
type reading struct {
	ask
	vs     []api.Vcpu
	i      int
	err    int
	value  uint64
	silent bool
}

// base are the calls of kind 0x10.
func (r *reading) base() {
	switch r.fn {
	case 0:
		r.value = 1 << 25
	case 3:
		for _, k := range kinds {
			if k == r.a {
				r.value = 1
			}
		}
	default:
		r.err = -2
	}
}

// meant tells whether number n is one of those that are to be interrupted.
func (r *reading) meant(n int) bool {
	if r.b == ones {
		return true
	}
	less := new(big.Int).Sub(big.NewInt(int64(n)), new(big.Int).SetUint64(r.b))
	less.Mod(less, new(big.Int).Lsh(big.NewInt(1), 64))
	return less.BitLen() <= 6 && new(big.Int).SetUint64(r.a).Bit(int(less.Int64())) == 1
}

// harts are the calls of kind 0x48534d.
func (r *reading) harts() {
	there := new(big.Int).SetUint64(r.a).Cmp(big.NewInt(int64(len(r.vs)))) < 0
	switch {
	case r.fn == 1:
		r.vs[r.i].State, r.silent = 0, true
	case r.fn != 0 && r.fn != 2:
		r.err = -2
	case !there:
		r.err = -3
	case r.fn == 2 && r.vs[r.a].State == 0:
		r.value = 1
	case r.fn == 2:
	case r.vs[r.a].State != 0:
		r.err = -6
	default:
		r.vs[r.a] = api.Vcpu{State: 1, Hart: reset(r.b, r.a, r.c)}
	}
}

// holds fails if a call comes to anything else than the chapter says.
func holds(t *testing.T, vs []api.Vcpu, i int) {
	t.Helper()
	next, out, down := called(t, vs, i)
	wantNext, wantOut, wantDown := read(vs, i)
	what := "Call of an i that is none"
	if i >= 0 && i < len(vs) {
		x := vs[i].Hart.X
		what = fmt.Sprintf("Call(%d of %d) of %#x, %d (%#x, %#x, %#x)", i, len(vs), x[17], x[16], x[10], x[11], x[12])
	}
	sameAll(t, "P17.3: "+what, next, wantNext)
	if !bytes.Equal(out, wantOut) || down != wantDown {
		t.Errorf("P17.3: %s: out %v, down %v, not %v, %v", what, out, down, wantOut, wantDown)
	}
}
