package inst_test

import (
	"strconv"
	"strings"
	"testing"

	"citadel/api"
	"citadel/inst"
)

// A short is a row of the document's second table.
type short struct {
	bits string // of the 16: 0 and 1 are told, points are not
	imm  string // the bits of c and their places in the immediate, as "10:7=9:6"
	sign int    // how many bits the immediate has, if its highest is its sign
	// inst is what c stands for with immediate n; the row is reserved where it
	// answers false.
	inst func(c uint32, n int) (api.Inst, bool)
}

const (
	small  = "12:12=5:5 6:2=4:0"
	word   = "5:5=6:6 12:10=5:3 6:6=2:2"
	double = "6:5=7:6 12:10=5:3"
	branch = "12:12=8:8 6:5=7:6 2:2=5:5 11:10=4:3 4:3=2:1"
)

func rd(c uint32) int    { return cut(c, 11, 7) }
func rs2(c uint32) int   { return cut(c, 6, 2) }
func rs1p(c uint32) int  { return 8 + cut(c, 9, 7) }
func rdRs2(c uint32) int { return 8 + cut(c, 4, 2) }

func imm(fn, rd, rs1, n int) api.Inst {
	return api.Inst{Kind: api.KindAluImm, Fn: fn, Rd: rd, Rs1: rs1, Imm: n}
}

func load(size, rd, rs1, n int) api.Inst {
	return api.Inst{Kind: api.KindLoad, Size: size, Signed: true, Rd: rd, Rs1: rs1, Imm: n}
}

func store(size, rs2, rs1, n int) api.Inst {
	return api.Inst{Kind: api.KindStore, Size: size, Rs1: rs1, Rs2: rs2, Imm: n}
}

func alu(fn, rd, rs1, rs2 int) api.Inst {
	return api.Inst{Kind: api.KindAlu, Fn: fn, Rd: rd, Rs1: rs1, Rs2: rs2}
}

func shorts() []short {
	out := []short{
		{"000...........00", "10:7=9:6 12:11=5:4 5:5=3:3 6:6=2:2", 0, func(c uint32, n int) (api.Inst, bool) { return imm(api.Add, rdRs2(c), 2, n), n != 0 }},
		{"010...........00", word, 0, func(c uint32, n int) (api.Inst, bool) { return load(4, rdRs2(c), rs1p(c), n), true }},
		{"011...........00", double, 0, func(c uint32, n int) (api.Inst, bool) { return load(8, rdRs2(c), rs1p(c), n), true }},
		{"110...........00", word, 0, func(c uint32, n int) (api.Inst, bool) { return store(4, rdRs2(c), rs1p(c), n), true }},
		{"111...........00", double, 0, func(c uint32, n int) (api.Inst, bool) { return store(8, rdRs2(c), rs1p(c), n), true }},
		{"000...........01", small, 6, func(c uint32, n int) (api.Inst, bool) { return imm(api.Add, rd(c), rd(c), n), true }},
		{"001...........01", small, 6, func(c uint32, n int) (api.Inst, bool) { return imm(api.Addw, rd(c), rd(c), n), rd(c) != 0 }},
		{"010...........01", small, 6, func(c uint32, n int) (api.Inst, bool) { return imm(api.Add, rd(c), 0, n), true }},
		{"011.00010.....01", "12:12=9:9 4:3=8:7 5:5=6:6 2:2=5:5 6:6=4:4", 10, func(c uint32, n int) (api.Inst, bool) { return imm(api.Add, 2, 2, n), n != 0 }},
		{"011...........01", "12:12=17:17 6:2=16:12", 18, func(c uint32, n int) (api.Inst, bool) {
			return api.Inst{Kind: api.KindLui, Rd: rd(c), Imm: n}, n != 0
		}},
		{"100.00........01", small, 0, func(c uint32, n int) (api.Inst, bool) { return imm(api.Srl, rs1p(c), rs1p(c), n), true }},
		{"100.01........01", small, 0, func(c uint32, n int) (api.Inst, bool) { return imm(api.Sra, rs1p(c), rs1p(c), n), true }},
		{"100.10........01", small, 6, func(c uint32, n int) (api.Inst, bool) { return imm(api.And, rs1p(c), rs1p(c), n), true }},
		{"101...........01", "12:12=11:11 8:8=10:10 10:9=9:8 6:6=7:7 7:7=6:6 2:2=5:5 11:11=4:4 5:3=3:1", 12, func(c uint32, n int) (api.Inst, bool) {
			return api.Inst{Kind: api.KindJal, Imm: n}, true
		}},
		{"110...........01", branch, 9, func(c uint32, n int) (api.Inst, bool) {
			return api.Inst{Kind: api.KindBranch, Fn: api.Beq, Rs1: rs1p(c), Imm: n}, true
		}},
		{"111...........01", branch, 9, func(c uint32, n int) (api.Inst, bool) {
			return api.Inst{Kind: api.KindBranch, Fn: api.Bne, Rs1: rs1p(c), Imm: n}, true
		}},
	}
	out = append(out, calculations()...)
	return append(out, stacks()...)
}

func calculations() []short {
	var out []short
	for bits, fn := range map[string]int{
		"100011...00...01": api.Sub, "100011...01...01": api.Xor, "100011...10...01": api.Or, "100011...11...01": api.And,
		"100111...00...01": api.Subw, "100111...01...01": api.Addw,
	} {
		out = append(out, short{bits, "", 0, func(c uint32, n int) (api.Inst, bool) { return alu(fn, rs1p(c), rs1p(c), rdRs2(c)), true }})
	}
	return out
}

// stacks are the rows with [1:0] 2.
func stacks() []short {
	return []short{
		{"000...........10", small, 0, func(c uint32, n int) (api.Inst, bool) { return imm(api.Sll, rd(c), rd(c), n), true }},
		{"010...........10", "3:2=7:6 12:12=5:5 6:4=4:2", 0, func(c uint32, n int) (api.Inst, bool) { return load(4, rd(c), 2, n), rd(c) != 0 }},
		{"011...........10", "4:2=8:6 12:12=5:5 6:5=4:3", 0, func(c uint32, n int) (api.Inst, bool) { return load(8, rd(c), 2, n), rd(c) != 0 }},
		{"1000.....0000010", "", 0, func(c uint32, n int) (api.Inst, bool) {
			return api.Inst{Kind: api.KindJalr, Rs1: rd(c)}, rd(c) != 0
		}},
		{"1000..........10", "", 0, func(c uint32, n int) (api.Inst, bool) { return alu(api.Add, rd(c), 0, rs2(c)), true }},
		{"1001000000000010", "", 0, func(c uint32, n int) (api.Inst, bool) { return api.Inst{Kind: api.KindEbreak}, true }},
		{"1001.....0000010", "", 0, func(c uint32, n int) (api.Inst, bool) {
			return api.Inst{Kind: api.KindJalr, Rd: 1, Rs1: rd(c)}, true
		}},
		{"1001..........10", "", 0, func(c uint32, n int) (api.Inst, bool) { return alu(api.Add, rd(c), rd(c), rs2(c)), true }},
		{"110...........10", "8:7=7:6 12:9=5:2", 0, func(c uint32, n int) (api.Inst, bool) { return store(4, rs2(c), 2, n), true }},
		{"111...........10", "9:7=8:6 12:10=5:3", 0, func(c uint32, n int) (api.Inst, bool) { return store(8, rs2(c), 2, n), true }},
	}
}

func (s short) fits(c uint32) bool {
	for at, b := range s.bits {
		if b != '.' && cut(c, 15-at, 15-at) != int(b-'0') {
			return false
		}
	}
	return true
}

// gather is the immediate that the row's text tells.
func (s short) gather(c uint32) int {
	n := 0
	for _, piece := range strings.Fields(s.imm) {
		from, to, _ := strings.Cut(piece, "=")
		high, low, _ := strings.Cut(from, ":")
		_, place, _ := strings.Cut(to, ":")
		n += cut(c, number(high), number(low)) << number(place)
	}
	if s.sign > 0 {
		n = withSign(n, s.sign)
	}
	return n
}

func number(text string) int {
	n, err := strconv.Atoi(text)
	if err != nil {
		panic(err)
	}
	return n
}

// standsFor is what the first row that fits says; rows with more told bits come
// ahead of those that say "else".
func standsFor(table []short, c uint32) (api.Inst, bool) {
	for _, s := range table {
		if s.fits(c) {
			if i, ok := s.inst(c, s.gather(c)); ok {
				return i, true
			}
			break
		}
	}
	return api.Inst{}, false
}

// All compressed instructions that there could be.
func TestExpandAll(t *testing.T) {
	table, words := shorts(), rows()
	for c := range uint32(1 << 16) {
		want, wantOk := standsFor(table, c)
		w, ok := inst.Expand(uint16(c))
		if ok != wantOk || !ok && w != 0 {
			t.Fatalf("P2.4: Expand(%04x) = %08x, %v, not that of %+v, %v", c, w, ok, want, wantOk)
		}
		if got, _ := expected(words, w); got != want {
			t.Fatalf("P2.4: Expand(%04x) = %08x, the word of %+v, not of %+v", c, w, got, want)
		}
		if _, taken := inst.Decode(w); taken != ok {
			t.Fatalf("P2.5: Expand(%04x) = %08x, %v, but Decode says %v", c, w, ok, taken)
		}
	}
}

func TestExpandExamples(t *testing.T) {
	for c, want := range map[uint16]uint32{
		0x4501: 0x00000513, 0x4188: 0x0005a503, 0x8082: 0x00008067,
		0x0001: 0x00000013, // addi x0, x0, 0
		0x107d: 0xfff00013, // addi x0, x0, -1
		0x1ffc: 0x3fc10793, // the greatest immediate: addi x15, x2, 1020
		0x7101: 0xe0010113, // the least: addi x2, x2, -512
		0x6105: 0x02010113, // addi x2, x2, 32
		0x7001: 0xfffe0037, // lui x0 is no reserved one
		0x6ffd: 0x0001ffb7, // the greatest: lui x31, 31
		0x9001: 0x02045413, // srli x8, x8, 32
		0x8001: 0x00045413, // srli x8, x8, 0
		0x0002: 0x00001013, // slli x0, x0, 0
		0x1ffe: 0x03ff9f93, // slli x31, x31, 63
		0xb001: 0x801ff06f, // the least: jal x0, -2048
		0xaffd: 0x7fe0006f, // the greatest: jal x0, 2046
		0xd001: 0xf00400e3, // beq x8, x0, -256
		0xec7d: 0x0e041f63, // bne x8, x0, 254
		0x9002: 0x00100073, // ebreak
		0x9082: 0x000080e7, // jalr x1, 0(x1)
		0x8006: 0x00100033, // add x0, x0, x1
		0x9006: 0x00100033,
		0x50fe: 0x0fc12083, // lw x1, 252(x2)
		0x70fe: 0x1f813083, // ld x1, 504(x2)
		0xdf82: 0x0e012e23, // sw x0, 252(x2)
		0xff82: 0x1e013c23, // sd x0, 504(x2)
	} {
		if got, ok := inst.Expand(c); !ok || got != want {
			t.Errorf("P2.4: Expand(%04x) = %08x, %v, not %08x", c, got, ok, want)
		}
	}
}

func TestExpandRefuses(t *testing.T) {
	for _, c := range []uint16{
		0x0000, 0x0004, 0x001c, // n 0
		0x2000, 0x3ffc, 0xa000, 0xbffc, 0x2002, 0x3ffe, 0xa002, 0xbffe, // floating point
		0x8000, 0x9ffc, // no row
		0x2001, 0x2005, 0x307d, // addiw of x0
		0x6101, 0x6001, 0x6081, 0x6f81, // n 0
		0x9c41, 0x9c61, 0x9fdd, 0x9ffd, // [6:5] 2, 3
		0x4002, 0x507e, 0x6002, 0x707e, // loads to x0
		0x8002, // a jump to x0
		0x0003, 0xffff, 0x8003, 0x4503,
	} {
		if got, ok := inst.Expand(c); ok || got != 0 {
			t.Errorf("P2.4: Expand(%04x) = %08x, %v", c, got, ok)
		}
	}
}
