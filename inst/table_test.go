package inst_test

import (
	"math"
	"strings"

	"citadel/api"
)

// A form is a row of the document's first table for one name, as the published
// encodings are drawn: bits that are told are 0 or 1, those of fields are points,
// those that may be anything are dashes.
type form struct {
	bits   string
	name   api.Inst
	fields string // d, s, t: rd, rs1, rs2; then the immediate: I S B U J, 6 and 5 for shift amounts, C for a csr
}

func forms() []form {
	out := []form{
		{"....................,.....,0110111", api.Inst{Kind: api.KindLui}, "dU"},
		{"....................,.....,0010111", api.Inst{Kind: api.KindAuipc}, "dU"},
		{"....................,.....,1101111", api.Inst{Kind: api.KindJal}, "dJ"},
		{"............,.....,000,.....,1100111", api.Inst{Kind: api.KindJalr}, "dsI"},
		{"------------,-----,000,-----,0001111", api.Inst{Kind: api.KindFence}, ""},
		{"------------,-----,001,-----,0001111", api.Inst{Kind: api.KindFence}, ""},
		{"000000000000,00000,000,00000,1110011", api.Inst{Kind: api.KindEcall}, ""},
		{"000000000001,00000,000,00000,1110011", api.Inst{Kind: api.KindEbreak}, ""},
		{"000100000010,00000,000,00000,1110011", api.Inst{Kind: api.KindSret}, ""},
		{"000100000101,00000,000,00000,1110011", api.Inst{Kind: api.KindWfi}, ""},
		{"0001001,.....,.....,000,00000,1110011", api.Inst{Kind: api.KindSfence}, "st"},
		{"............,.....,001,.....,1110011", api.Inst{Kind: api.KindCsr, Fn: 1}, "dsC"},
		{"............,.....,010,.....,1110011", api.Inst{Kind: api.KindCsr, Fn: 2}, "dsC"},
		{"............,.....,011,.....,1110011", api.Inst{Kind: api.KindCsr, Fn: 3}, "dsC"},
		{"............,.....,101,.....,1110011", api.Inst{Kind: api.KindCsrImm, Fn: 1}, "dsC"},
		{"............,.....,110,.....,1110011", api.Inst{Kind: api.KindCsrImm, Fn: 2}, "dsC"},
		{"............,.....,111,.....,1110011", api.Inst{Kind: api.KindCsrImm, Fn: 3}, "dsC"},
	}
	out = append(out, moves()...)
	out = append(out, immediates()...)
	out = append(out, operations()...)
	return append(out, atomics()...)
}

func moves() []form {
	branch := func(f3 string, fn int) form {
		return form{".......,.....,.....," + f3 + ",.....,1100011", api.Inst{Kind: api.KindBranch, Fn: fn}, "stB"}
	}
	load := func(f3 string, size int, signed bool) form {
		return form{"............,.....," + f3 + ",.....,0000011", api.Inst{Kind: api.KindLoad, Size: size, Signed: signed}, "dsI"}
	}
	store := func(f3 string, size int) form {
		return form{".......,.....,.....," + f3 + ",.....,0100011", api.Inst{Kind: api.KindStore, Size: size}, "stS"}
	}
	return []form{
		branch("000", api.Beq), branch("001", api.Bne), branch("100", api.Blt),
		branch("101", api.Bge), branch("110", api.Bltu), branch("111", api.Bgeu),
		load("000", 1, true), load("001", 2, true), load("010", 4, true), load("011", 8, true),
		load("100", 1, false), load("101", 2, false), load("110", 4, false),
		store("000", 1), store("001", 2), store("010", 4), store("011", 8),
	}
}

func immediates() []form {
	imm := func(bits string, fn int, fields string) form {
		return form{bits, api.Inst{Kind: api.KindAluImm, Fn: fn}, fields}
	}
	return []form{
		imm("............,.....,000,.....,0010011", api.Add, "dsI"),
		imm("............,.....,010,.....,0010011", api.Slt, "dsI"),
		imm("............,.....,011,.....,0010011", api.Sltu, "dsI"),
		imm("............,.....,100,.....,0010011", api.Xor, "dsI"),
		imm("............,.....,110,.....,0010011", api.Or, "dsI"),
		imm("............,.....,111,.....,0010011", api.And, "dsI"),
		imm("000000,......,.....,001,.....,0010011", api.Sll, "ds6"),
		imm("000000,......,.....,101,.....,0010011", api.Srl, "ds6"),
		imm("010000,......,.....,101,.....,0010011", api.Sra, "ds6"),
		imm("............,.....,000,.....,0011011", api.Addw, "dsI"),
		imm("0000000,.....,.....,001,.....,0011011", api.Sllw, "ds5"),
		imm("0000000,.....,.....,101,.....,0011011", api.Srlw, "ds5"),
		imm("0100000,.....,.....,101,.....,0011011", api.Sraw, "ds5"),
	}
}

func operations() []form {
	alu := func(f7, f3, op string, fn int) form {
		return form{f7 + ",.....,.....," + f3 + ",.....," + op, api.Inst{Kind: api.KindAlu, Fn: fn}, "dst"}
	}
	const plain, other, product, words, halves = "0000000", "0100000", "0000001", "0110011", "0111011"
	return []form{
		alu(plain, "000", words, api.Add), alu(plain, "001", words, api.Sll), alu(plain, "010", words, api.Slt),
		alu(plain, "011", words, api.Sltu), alu(plain, "100", words, api.Xor), alu(plain, "101", words, api.Srl),
		alu(plain, "110", words, api.Or), alu(plain, "111", words, api.And),
		alu(other, "000", words, api.Sub), alu(other, "101", words, api.Sra),
		alu(product, "000", words, api.Mul), alu(product, "001", words, api.Mulh), alu(product, "010", words, api.Mulhsu),
		alu(product, "011", words, api.Mulhu), alu(product, "100", words, api.Div), alu(product, "101", words, api.Divu),
		alu(product, "110", words, api.Rem), alu(product, "111", words, api.Remu),
		alu(plain, "000", halves, api.Addw), alu(plain, "001", halves, api.Sllw), alu(plain, "101", halves, api.Srlw),
		alu(other, "000", halves, api.Subw), alu(other, "101", halves, api.Sraw),
		alu(product, "000", halves, api.Mulw), alu(product, "100", halves, api.Divw), alu(product, "101", halves, api.Divuw),
		alu(product, "110", halves, api.Remw), alu(product, "111", halves, api.Remuw),
	}
}

func atomics() []form {
	var out []form
	for f3, size := range map[string]int{"010": 4, "011": 8} {
		add := func(f5, rs2 string, name api.Inst, fields string) {
			name.Size = size
			out = append(out, form{f5 + ",--," + rs2 + ",.....," + f3 + ",.....,0101111", name, fields})
		}
		add("00010", "00000", api.Inst{Kind: api.KindLr}, "ds")
		add("00011", ".....", api.Inst{Kind: api.KindSc}, "dst")
		for f5, fn := range map[string]int{
			"00001": api.AmoSwap, "00000": api.AmoAdd, "00100": api.AmoXor, "01100": api.AmoAnd, "01000": api.AmoOr,
			"10000": api.AmoMin, "10100": api.AmoMax, "11000": api.AmoMinu, "11100": api.AmoMaxu,
		} {
			add(f5, ".....", api.Inst{Kind: api.KindAmo, Fn: fn}, "dst")
		}
	}
	return out
}

// A row is a form made ready: w fits if w&mask is match.
type row struct {
	form
	mask, match uint32
}

func rows() []row {
	var out []row
	for _, f := range forms() {
		f.bits = strings.ReplaceAll(f.bits, ",", "")
		if len(f.bits) != 32 {
			panic(f.bits)
		}
		r := row{form: f}
		for at, b := range f.bits {
			bit := uint32(1) << (31 - at)
			if b == '0' || b == '1' {
				r.mask |= bit
			}
			if b == '1' {
				r.match |= bit
			}
		}
		out = append(out, r)
	}
	return out
}

// cut is the bits [high:low] of a word.
func cut(w uint32, high, low int) int {
	n := 0
	for at := high; at >= low; at-- {
		n = 2*n + int(w>>at&1)
	}
	return n
}

// withSign is n, of some bits, whose highest counts down.
func withSign(n, width int) int {
	if n >= 1<<(width-1) {
		return n - 1<<width
	}
	return n
}

// inst is what a word that fits a row stands for.
func (r row) inst(w uint32) api.Inst {
	i := r.name
	for _, f := range r.fields {
		switch f {
		case 'd':
			i.Rd = cut(w, 11, 7)
		case 's':
			i.Rs1 = cut(w, 19, 15)
		case 't':
			i.Rs2 = cut(w, 24, 20)
		case 'I':
			i.Imm = withSign(cut(w, 31, 20), 12)
		case 'S':
			i.Imm = withSign(cut(w, 31, 25)*32+cut(w, 11, 7), 12)
		case 'B':
			i.Imm = withSign(cut(w, 31, 31)*4096+cut(w, 7, 7)*2048+cut(w, 30, 25)*32+cut(w, 11, 8)*2, 13)
		case 'U':
			i.Imm = withSign(cut(w, 31, 12)*4096, 32)
		case 'J':
			i.Imm = withSign(cut(w, 31, 31)*1048576+cut(w, 19, 12)*4096+cut(w, 20, 20)*2048+cut(w, 30, 21)*2, 21)
		case '6':
			i.Imm = cut(w, 25, 20)
		case '5':
			i.Imm = cut(w, 24, 20)
		case 'C':
			i.Imm = cut(w, 31, 20)
		}
	}
	return i
}

// reach is the least and the greatest immediate of a row, and their step; it is
// 0, 0, 1 for a row without one.
func (r row) reach() (int, int, int) {
	switch {
	case strings.ContainsAny(r.fields, "IS"):
		return -2048, 2047, 1
	case strings.Contains(r.fields, "B"):
		return -4096, 4094, 2
	case strings.Contains(r.fields, "U"):
		return math.MinInt32, math.MaxInt32 - 4095, 4096
	case strings.Contains(r.fields, "J"):
		return -1048576, 1048574, 2
	case strings.Contains(r.fields, "6"):
		return 0, 63, 1
	case strings.Contains(r.fields, "5"):
		return 0, 31, 1
	case strings.Contains(r.fields, "C"):
		return 0, 4095, 1
	}
	return 0, 0, 1
}

// holds tells whether a row has a word for an instruction.
func (r row) holds(i api.Inst) bool {
	name := i
	name.Rd, name.Rs1, name.Rs2, name.Imm = 0, 0, 0, 0
	if name != r.name {
		return false
	}
	register := func(field string, n int) bool {
		return n == 0 || strings.Contains(r.fields, field) && 0 < n && n < 32
	}
	least, greatest, step := r.reach()
	return register("d", i.Rd) && register("s", i.Rs1) && register("t", i.Rs2) &&
		least <= i.Imm && i.Imm <= greatest && i.Imm%step == 0
}

// fills are words that fit a row: its open bits all 0, all 1, each alone, each
// alone left out, and scattered by a fixed rule.
func (r row) fills() []uint32 {
	open := ^r.mask
	out := []uint32{r.match, r.match | open}
	for at := range 32 {
		if bit := uint32(1) << at; open&bit != 0 {
			out = append(out, r.match|bit, r.match|open&^bit)
		}
	}
	x := uint64(88172645463325252) ^ uint64(r.match)
	for range 40 {
		x ^= x << 13
		x ^= x >> 7
		x ^= x << 17
		out = append(out, r.match|uint32(x>>16)&open)
	}
	return out
}

// plain is a word with the bits that a row does not tell set to 0.
func (r row) plain(w uint32) uint32 {
	for at, b := range r.bits {
		if b == '-' {
			w &^= 1 << (31 - at)
		}
	}
	return w
}

// expected is what the table says of a word.
func expected(table []row, w uint32) (api.Inst, bool) {
	for _, r := range table {
		if w&r.mask == r.match {
			return r.inst(w), true
		}
	}
	return api.Inst{}, false
}
