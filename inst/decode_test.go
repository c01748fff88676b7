package inst_test

import (
	"testing"

	"citadel/api"
	"citadel/inst"
)

func checkDecode(t *testing.T, table []row, w uint32) {
	t.Helper()
	want, wantOk := expected(table, w)
	if got, ok := inst.Decode(w); got != want || ok != wantOk {
		t.Fatalf("P2.2: Decode(%08x) = %+v, %v, not %+v, %v", w, got, ok, want, wantOk)
	}
}

func TestSize(t *testing.T) {
	for low := range 1 << 16 {
		want := 2
		if low%4 == 3 {
			want = 4
		}
		if got := inst.Size(uint16(low)); got != want {
			t.Fatalf("P2.1: Size(%04x) = %d", low, got)
		}
	}
}

func TestDecodeExamples(t *testing.T) {
	for w, want := range map[uint32]api.Inst{
		0x00500093: {Kind: api.KindAluImm, Fn: api.Add, Rd: 1, Imm: 5},
		0xfe209ee3: {Kind: api.KindBranch, Fn: api.Bne, Rs1: 1, Rs2: 2, Imm: -4},
		0x80000fb7: {Kind: api.KindLui, Rd: 31, Imm: -1 << 31},
		0x7ffff0b7: {Kind: api.KindLui, Rd: 1, Imm: 1<<31 - 4096},
		0xfffff0b7: {Kind: api.KindLui, Rd: 1, Imm: -4096},
		0x7ffff06f: {Kind: api.KindJal, Imm: 1<<20 - 2},
		0x8000006f: {Kind: api.KindJal, Imm: -1 << 20},
		0x7e000fe3: {Kind: api.KindBranch, Fn: api.Beq, Imm: 4094},
		0x80000063: {Kind: api.KindBranch, Fn: api.Beq, Imm: -4096},
		0x7e000fa3: {Kind: api.KindStore, Size: 1, Imm: 2047},
		0x80000023: {Kind: api.KindStore, Size: 1, Imm: -2048},
		0x7ff00013: {Kind: api.KindAluImm, Fn: api.Add, Imm: 2047},
		0x80000013: {Kind: api.KindAluImm, Fn: api.Add, Imm: -2048},
		0x03f01013: {Kind: api.KindAluImm, Fn: api.Sll, Imm: 63},
		0x01f0101b: {Kind: api.KindAluImm, Fn: api.Sllw, Imm: 31},
		0xfff01073: {Kind: api.KindCsr, Fn: 1, Imm: 4095},
		0xfff0f073: {Kind: api.KindCsrImm, Fn: 3, Rs1: 1, Imm: 4095},
		0xffff9f8f: {Kind: api.KindFence},
		0x1600a0af: {Kind: api.KindLr, Size: 4, Rd: 1, Rs1: 1},
		0xe7ffbfaf: {Kind: api.KindAmo, Fn: api.AmoMaxu, Size: 8, Rd: 31, Rs1: 31, Rs2: 31},
	} {
		if got, ok := inst.Decode(w); !ok || got != want {
			t.Errorf("P2.2: Decode(%08x) = %+v, %v, not %+v", w, got, ok, want)
		}
	}
}

func TestDecodeTellsOneRow(t *testing.T) {
	table := rows()
	if len(table) != 97 {
		t.Fatalf("%d rows", len(table))
	}
	for _, r := range table {
		for _, w := range r.fills() {
			for _, other := range table {
				if other.bits != r.bits && w&other.mask == other.match {
					t.Fatalf("%08x fits %s and %s", w, r.bits, other.bits)
				}
			}
			checkDecode(t, table, w)
		}
	}
}

// One bit off a row is another row's word, or none's.
func TestDecodeBesideRows(t *testing.T) {
	table := rows()
	for _, r := range table {
		for _, w := range r.fills() {
			for at := range 32 {
				checkDecode(t, table, w^1<<at)
			}
		}
	}
}

// All opcodes with all f3 and f7, at registers of both ends.
func TestDecodeAllOpcodes(t *testing.T) {
	table := rows()
	for top := range uint32(1 << 17) {
		w := top&0x7f | top>>7&7<<12 | top>>10<<25
		for _, fields := range []uint32{0, 31 << 7, 31 << 15, 31 << 20, 1 << 20, 2 << 20, 5 << 20, 31<<7 | 31<<15 | 31<<20} {
			checkDecode(t, table, w|fields)
		}
	}
}

func TestDecodeWordsOfNoRow(t *testing.T) {
	for _, w := range []uint32{
		0, ^uint32(0), 1, 2, 0x7f, 0x00000057, 0x00000007, 0x00000053,
		0x00001067, 0x00007067, 0x00002063, 0x00003063, 0x00007003, 0x00004023, 0x00007023,
		0x04001013, 0x40001013, 0x04005013, 0x44005013, 0x80005013, 0x0200101b, 0x0200501b, 0x4000101b, 0x4200501b, 0x0000201b, 0x0000701b,
		0x40001033, 0x40007033, 0x04000033, 0x80000033, 0x0000203b, 0x0000703b, 0x4000103b, 0x0200103b, 0x0200203b, 0x0400003b,
		0x0000200f, 0x0000700f,
		0x00200073, 0x000000f3, 0x00008073, 0x00108073, 0x001000f3, 0x10200ff3, 0x10208073, 0x105000f3, 0x10508073, 0x10300073, 0x30200073, 0x120000f3, 0x00004073, 0x10004073,
		0x1010202f, 0x1000102f, 0x1000402f, 0x2800202f, 0xf800302f, 0x0000002f, 0x0000702f,
	} {
		if got, ok := inst.Decode(w); ok || got != (api.Inst{}) {
			t.Errorf("P2.2: Decode(%08x) = %+v, %v", w, got, ok)
		}
	}
}

// What may be anything is not told.
func TestDecodeLeavesOut(t *testing.T) {
	for any := range uint32(1 << 12) {
		for _, w := range []uint32{any<<20 | 0x0f, any<<20 | any<<7&0xf80 | any<<15&0xf8000 | 0x100f} {
			if got, ok := inst.Decode(w); !ok || got != (api.Inst{Kind: api.KindFence}) {
				t.Fatalf("P2.2: Decode(%08x) = %+v, %v", w, got, ok)
			}
		}
	}
	for aqrl := range uint32(4) {
		for w, want := range map[uint32]api.Inst{
			0x1005352f: {Kind: api.KindLr, Size: 8, Rd: 10, Rs1: 10},
			0x18b5252f: {Kind: api.KindSc, Size: 4, Rd: 10, Rs1: 10, Rs2: 11},
			0x00b5352f: {Kind: api.KindAmo, Fn: api.AmoAdd, Size: 8, Rd: 10, Rs1: 10, Rs2: 11},
		} {
			if got, ok := inst.Decode(w | aqrl<<25); !ok || got != want {
				t.Errorf("P2.2: Decode(%08x) = %+v, %v", w|aqrl<<25, got, ok)
			}
		}
	}
}
