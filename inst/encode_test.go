package inst_test

import (
	"math"
	"slices"
	"testing"

	"citadel/api"
	"citadel/inst"
)

func TestEncodeRows(t *testing.T) {
	for _, r := range rows() {
		for _, w := range r.fills() {
			want := r.plain(w)
			if r.name.Kind == api.KindFence {
				want = 0x0000000f
			}
			if got, ok := inst.Encode(r.inst(w)); !ok || got != want {
				t.Fatalf("P2.3: Encode(%+v) = %08x, %v, not %08x", r.inst(w), got, ok, want)
			}
		}
	}
}

// numbers are the ends of fields of all widths, and what lies beside them.
func numbers() []int {
	out := []int{math.MinInt64, math.MinInt64 + 1, math.MaxInt64, math.MaxInt64 - 1}
	for n := range 34 {
		for _, near := range []int{-1, 0, 1} {
			out = append(out, 1<<n+near, -(1<<n)+near)
		}
		out = append(out, 1<<n-4096, -(1<<n)+4096)
	}
	for n := range 65 {
		out = append(out, n, n+1<<32)
	}
	slices.Sort(out)
	return slices.Compact(out)
}

func checkEncode(t *testing.T, table []row, i api.Inst) {
	t.Helper()
	want := false
	for _, r := range table {
		want = want || r.holds(i)
	}
	w, ok := inst.Encode(i)
	if ok != want || !ok && w != 0 {
		t.Fatalf("P2.3: Encode(%+v) = %08x, %v", i, w, ok)
	}
	if back, _ := expected(table, w); ok && back != i {
		t.Fatalf("P2.3: Encode(%+v) = %08x, the word of %+v", i, w, back)
	}
}

// Each field of an instruction of each row is set to each number in turn.
func TestEncodeFields(t *testing.T) {
	table := rows()
	for _, r := range table {
		for _, w := range r.fills()[:2] {
			i := r.inst(w)
			for _, n := range numbers() {
				for _, set := range []func(*api.Inst){
					func(x *api.Inst) { x.Kind = n },
					func(x *api.Inst) { x.Fn = n },
					func(x *api.Inst) { x.Rd = n },
					func(x *api.Inst) { x.Rs1 = n },
					func(x *api.Inst) { x.Rs2 = n },
					func(x *api.Inst) { x.Imm = n },
					func(x *api.Inst) { x.Size = n },
				} {
					x := i
					set(&x)
					checkEncode(t, table, x)
				}
			}
			i.Signed = !i.Signed
			checkEncode(t, table, i)
		}
	}
}

// All names that kinds, operations and sizes could make.
func TestEncodeNames(t *testing.T) {
	table := rows()
	for kind := -1; kind < 24; kind++ {
		for fn := -1; fn < 34; fn++ {
			for size := -1; size < 10; size++ {
				checkEncode(t, table, api.Inst{Kind: kind, Fn: fn, Size: size})
				checkEncode(t, table, api.Inst{Kind: kind, Fn: fn, Size: size, Signed: true})
			}
		}
	}
}

func TestEncodeRefuses(t *testing.T) {
	for _, i := range []api.Inst{
		{}, {Kind: -1}, {Kind: 21}, {Kind: 1<<32 + api.KindLui},
		{Kind: api.KindLui, Imm: 2048}, {Kind: api.KindLui, Imm: 1 << 31}, {Kind: api.KindLui, Rs1: 1}, {Kind: api.KindAuipc, Imm: -1<<31 - 4096},
		{Kind: api.KindJal, Imm: 3}, {Kind: api.KindJal, Imm: 1 << 20}, {Kind: api.KindJal, Imm: -1<<20 - 2},
		{Kind: api.KindJalr, Imm: 2048}, {Kind: api.KindJalr, Imm: -2049}, {Kind: api.KindJalr, Rd: -1}, {Kind: api.KindJalr, Rs1: 32},
		{Kind: api.KindBranch}, {Kind: api.KindBranch, Fn: 7}, {Kind: api.KindBranch, Fn: api.Beq, Imm: 1}, {Kind: api.KindBranch, Fn: api.Beq, Rd: 2},
		{Kind: api.KindLoad, Size: 8}, {Kind: api.KindLoad}, {Kind: api.KindLoad, Size: 16, Signed: true}, {Kind: api.KindLoad, Size: 4, Rs2: 1},
		{Kind: api.KindStore, Size: 4, Signed: true}, {Kind: api.KindStore, Size: 4, Rd: 1}, {Kind: api.KindStore, Size: 4, Imm: 2048},
		{Kind: api.KindAluImm, Fn: api.Sub}, {Kind: api.KindAluImm, Fn: api.Mul}, {Kind: api.KindAluImm, Fn: api.Subw}, {Kind: api.KindAluImm, Fn: api.Divuw},
		{Kind: api.KindAluImm, Fn: api.Srl, Imm: 64}, {Kind: api.KindAluImm, Fn: api.Srl, Imm: 1024}, {Kind: api.KindAluImm, Fn: api.Sra, Imm: -1}, {Kind: api.KindAluImm, Fn: api.Sllw, Imm: 32}, {Kind: api.KindAluImm, Fn: api.Sraw, Imm: -32},
		{Kind: api.KindAlu, Fn: 29}, {Kind: api.KindAlu, Fn: api.Add, Imm: 1}, {Kind: api.KindAlu, Fn: api.Add, Size: 8},
		{Kind: api.KindFence, Imm: 255}, {Kind: api.KindFence, Signed: true}, {Kind: api.KindEcall, Imm: 1}, {Kind: api.KindEbreak, Rd: 1}, {Kind: api.KindSret, Rs2: 2}, {Kind: api.KindWfi, Fn: 1},
		{Kind: api.KindEcall, Rs2: 1}, {Kind: api.KindSfence, Rd: 1}, {Kind: api.KindSfence, Imm: 1},
		{Kind: api.KindCsr}, {Kind: api.KindCsr, Fn: 1, Imm: -1}, {Kind: api.KindCsr, Fn: 5, Imm: 1}, {Kind: api.KindCsrImm, Fn: 1, Rs1: 32}, {Kind: api.KindCsrImm, Fn: 0}, {Kind: api.KindCsr, Fn: 1, Rs2: 1},
		{Kind: api.KindLr, Size: 8, Rs2: 1}, {Kind: api.KindLr, Size: 2}, {Kind: api.KindSc}, {Kind: api.KindSc, Size: 4, Imm: 1},
		{Kind: api.KindAmo, Size: 8}, {Kind: api.KindAmo, Fn: 10, Size: 8}, {Kind: api.KindAmo, Fn: api.AmoAdd, Size: 1}, {Kind: api.KindAmo, Fn: api.AmoAdd, Size: 4, Signed: true}, {Kind: api.KindAmo, Fn: api.AmoAdd, Size: 4, Imm: 0x60},
	} {
		if w, ok := inst.Encode(i); ok || w != 0 {
			t.Errorf("P2.3: Encode(%+v) = %08x, %v", i, w, ok)
		}
	}
}
