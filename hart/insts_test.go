package hart_test

import (
	"testing"

	"citadel/api"
	"citadel/word"
)

// regs are registers that an instruction names: no one, the first, and some more; each as Rd, Rs1 and Rs2.
var regs = []int{0, 1, 2, 17, 31}

// numbers are what registers hold.
var numbers = []uint64{0, 1, 2, 7, 0x7fff_ffff, 0x8000_0000, 0xffff_ffff, 1<<63 - 1, 1 << 63, ones - 1, ones}

// P6.5: KindLui, KindAuipc.
func TestUpper(t *testing.T) {
	for _, rd := range regs {
		for _, imm := range []int{0, 0x1000, -0x1000, 0x7fff_f000, -0x8000_0000} {
			h := sample()
			plain(t, api.Inst{Kind: api.KindLui, Rd: rd, Imm: imm}).retires(h, behind(with(h, uint64(rd), uint64(imm)), 4))
			plain(t, api.Inst{Kind: api.KindAuipc, Rd: rd, Imm: imm}).retires(h, behind(with(h, uint64(rd), start+uint64(imm)), 4))
		}
	}
}

// P6.5: KindAlu, with each operation, and all ways in which the three registers may be alike.
func TestAlu(t *testing.T) {
	for fn := api.Add; fn <= api.Remuw; fn++ {
		for i, rd := range regs {
			for j, rs1 := range regs {
				for k, rs2 := range regs {
					w := plain(t, api.Inst{Kind: api.KindAlu, Fn: fn, Rd: rd, Rs1: rs1, Rs2: rs2})
					h := sample()
					h = with(h, uint64(rs1), numbers[(fn+i+j)%len(numbers)])
					h = with(h, uint64(rs2), numbers[(fn+2*i+k)%len(numbers)])
					w.retires(h, behind(with(h, uint64(rd), word.Alu(fn, h.X[rs1], h.X[rs2])), 4))
				}
			}
		}
	}
}

// P6.5: KindAluImm; the immediate is a number with its sign, as a word.
func TestAluImm(t *testing.T) {
	for fn, imms := range map[int][]int{
		api.Add: {0, 1, -1, 2047, -2048}, api.Slt: {0, -1, 2047}, api.Sltu: {1, -1, -2048}, api.Xor: {-1, 85}, api.Or: {-256, 3}, api.And: {-16, 255},
		api.Sll: {0, 1, 31, 32, 63}, api.Srl: {1, 32, 63}, api.Sra: {1, 32, 63}, api.Addw: {0, 1, -1, 2047}, api.Sllw: {0, 31}, api.Srlw: {1, 31}, api.Sraw: {1, 31},
	} {
		for _, imm := range imms {
			for i, rd := range regs {
				for j, rs1 := range regs {
					h := with(sample(), uint64(rs1), numbers[(imm&15+i+j)%len(numbers)])
					w := plain(t, api.Inst{Kind: api.KindAluImm, Fn: fn, Rd: rd, Rs1: rs1, Imm: imm})
					w.retires(h, behind(with(h, uint64(rd), word.Alu(fn, h.X[rs1], uint64(imm))), 4))
				}
			}
		}
	}
}

// P6.5: KindJal.
func TestJal(t *testing.T) {
	for _, rd := range regs {
		for _, imm := range []int{0, 2, 4, 8, -2, -64, 1<<20 - 2, -1 << 20} {
			h := sample()
			want := with(h, uint64(rd), start+4)
			want.PC = start + uint64(imm)
			plain(t, api.Inst{Kind: api.KindJal, Rd: rd, Imm: imm}).retires(h, want)
		}
	}
}

// P6.5: KindJalr; x is taken ahead of Rd, and of where it goes the lowest bit is 0.
func TestJalr(t *testing.T) {
	for _, rd := range regs {
		for _, rs1 := range regs {
			for _, imm := range []int{0, 1, 2, 3, -1, 2047, -2048} {
				for _, x := range []uint64{0, 1, 0x1234, 0x1235, 1 << 63, ones - 1, ones} {
					h := with(sample(), uint64(rs1), x)
					want := with(h, uint64(rd), start+4)
					want.PC = (h.X[rs1] + uint64(imm)) / 2 * 2
					plain(t, api.Inst{Kind: api.KindJalr, Rd: rd, Rs1: rs1, Imm: imm}).retires(h, want)
				}
			}
		}
	}
}

// P6.5: KindBranch, each condition, met and not.
func TestBranch(t *testing.T) {
	for fn := api.Beq; fn <= api.Bgeu; fn++ {
		for _, imm := range []int{-4096, -2, 2, 4, 8, 4094} {
			w := plain(t, api.Inst{Kind: api.KindBranch, Fn: fn, Rs1: 5, Rs2: 6, Imm: imm})
			for _, x := range numbers {
				for _, y := range numbers {
					h := with(sample(), 5, x, 6, y)
					if word.Branch(fn, x, y) {
						w.retires(h, behind(h, uint64(imm)))
					} else {
						w.retires(h, behind(h, 4))
					}
				}
			}
		}
	}
	w := plain(t, api.Inst{Kind: api.KindBranch, Fn: api.Beq, Rs1: 9, Rs2: 9, Imm: 0})
	w.retires(sample(), sample())
	w = plain(t, api.Inst{Kind: api.KindBranch, Fn: api.Bltu, Rs1: 0, Rs2: 31, Imm: 16})
	w.retires(sample(), behind(sample(), 16))
}

// P6.5: KindFence.
func TestFence(t *testing.T) {
	for _, bits := range []uint64{0x0000000f, 0x0ff0000f, 0x0000100f, 0xffff9f8f} {
		plainBits(t, 4, bits).retires(sample(), behind(sample(), 4))
		plainBits(t, 4, bits).retires(sampleUser(), behind(sampleUser(), 4))
	}
}

// P6.5: KindEcall: a user traps, a supervisor calls.
func TestEcall(t *testing.T) {
	w := plain(t, api.Inst{Kind: api.KindEcall})
	w.does("P6.5", sample(), sample(), api.Event{Kind: api.ExitCall})
	w.traps("P6.5", sampleUser(), 8, 0)
}

// P6.5: KindEbreak, the compressed one too.
func TestEbreak(t *testing.T) {
	for _, h := range []api.Hart{sample(), sampleUser()} {
		plain(t, api.Inst{Kind: api.KindEbreak}).traps("P6.5", h, 3, start)
		plainBits(t, 2, 0x9002).traps("P6.5", h, 3, start)
	}
}

// P6.5: KindSret, from all that it is made of.
func TestSret(t *testing.T) {
	w := plain(t, api.Inst{Kind: api.KindSret})
	for i := range 8 {
		h := sample()
		h.Spp, h.Spie, h.On, h.Sepc, h.Sip = i&1 != 0, i&2 != 0, i&4 != 0, 0x4444, 0
		want := h
		want.PC, want.User, want.On, want.Spie, want.Spp = 0x4444, !h.Spp, h.Spie, true, false
		w.retires(h, want)
		h.User = true
		w.traps("P6.5", h, 2, 0x10200073)
	}
}

// P6.5: KindWfi, whatever interrupts wait.
func TestWfi(t *testing.T) {
	w := plain(t, api.Inst{Kind: api.KindWfi})
	w.does("P6.5", sample(), behind(sample(), 4), api.Event{Kind: api.ExitWait})
	h := sample()
	h.Sip, h.On = 0, true
	w.does("P6.5", h, behind(h, 4), api.Event{Kind: api.ExitWait})
	w.traps("P6.5", sampleUser(), 2, 0x10500073)
}

// P6.5: KindSfence turns nothing, the TLB neither.
func TestSfence(t *testing.T) {
	for _, i := range []api.Inst{{Kind: api.KindSfence}, {Kind: api.KindSfence, Rs1: 3, Rs2: 31}} {
		plain(t, i).retires(sample(), behind(sample(), 4))
		w := newGuest(t, 4)
		w.code(w.pa(code), i)
		w.x.Put(api.Trans{Vmid: 1, Page: 2, Frame: 3, Perm: 4})
		h := at(gpa(code))
		w.retires(h, behind(h, 4))
		w.holds("P6.5", api.Trans{Vmid: 1, Page: 2, Frame: 3, Perm: 4}, w.entry(code))
	}
	plain(t, api.Inst{Kind: api.KindSfence}).traps("P6.5", sampleUser(), 2, 0x12000073)
}

// P6.4, P6.5: bits that are no instruction, of 32 bits and of 16.
func TestIllegal(t *testing.T) {
	for _, bits := range []uint64{0xffffffff, 0x00000003 | 7<<12, 0x0000007f, 0x0000005b, 0x02000073, 0x00200073, 0x30200073, 0x10500173, 0xf0000033, 0x1015a52f, 0x00004073} {
		plainBits(t, 4, bits).traps("P6.4", sample(), 2, bits)
		plainBits(t, 4, bits).traps("P6.4", sampleUser(), 2, bits)
	}
	for _, bits := range []uint64{0, 0x2000, 0xa000, 0x9c41 | 3<<5, 0x8002, 0x6101 & 0xff83, 0x4002, 0x8000, 0x2002} {
		w := plainBits(t, 2, bits)
		w.set(start+2, 2, 0xffff) // what stands behind it does not count
		w.traps("P6.4", sample(), 2, bits)
	}
}

// P6.5: KindCsr and KindCsrImm, each Fn, on a CSR that holds all 64 bits.
func TestCsrInstructions(t *testing.T) {
	for fn := 1; fn <= 3; fn++ {
		for _, rd := range regs {
			for _, rs1 := range regs {
				h := sample()
				h.Sscratch = 0x0ff0_1234_5678_9abd
				h = with(h, uint64(rs1), 0xff0f_0000_ffff_0f0f)
				plain(t, api.Inst{Kind: api.KindCsr, Fn: fn, Rd: rd, Rs1: rs1, Imm: 0x140}).retires(h, csrTurned(h, fn, rd, rs1, h.X[rs1]))
				plain(t, api.Inst{Kind: api.KindCsrImm, Fn: fn, Rd: rd, Rs1: rs1, Imm: 0x140}).retires(h, csrTurned(h, fn, rd, rs1, uint64(rs1)))
			}
		}
	}
}

// csrTurned is what an instruction leaves that turns sscratch by a number.
func csrTurned(h api.Hart, fn, rd, rs1 int, v uint64) api.Hart {
	g := behind(with(h, uint64(rd), h.Sscratch), 4)
	switch {
	case fn == 1:
		g.Sscratch = v
	case fn == 2 && rs1 != 0:
		g.Sscratch = h.Sscratch | v
	case fn == 3 && rs1 != 0:
		g.Sscratch = h.Sscratch & (ones - v)
	}
	return g
}

// P6.5: every CSR that there is, by instructions: what is told is the old value, and what is written is cut as Write cuts it.
func TestCsrInstructionsOnAll(t *testing.T) {
	h := with(sample(), 6, ones)
	for csr, old := range map[int]uint64{
		0x100: 2<<32 | 1<<18 | 1<<5, 0x104: h.Sie, 0x105: h.Stvec, 0x140: h.Sscratch, 0x141: h.Sepc, 0x142: h.Scause, 0x143: h.Stval, 0x144: h.Sip, 0x180: h.Satp,
	} {
		read := api.Inst{Kind: api.KindCsr, Fn: 2, Rd: 5, Imm: csr}
		plain(t, read).retires(h, behind(with(h, 5, old), 4))
		plain(t, api.Inst{Kind: api.KindCsrImm, Fn: 3, Rd: 5, Imm: csr}).retires(h, behind(with(h, 5, old), 4))

		want := behind(with(h, 5, old), 4)
		switch csr {
		case 0x100:
			want.On, want.Spie, want.Spp, want.Sum, want.Mxr = true, true, true, true, true
		case 0x180: // all ones are no satp
		case 0x144:
			want.Sip |= 2
		default:
			*field(&want, csr) = bitsOf(csr)
		}
		plain(t, api.Inst{Kind: api.KindCsr, Fn: 1, Rd: 5, Rs1: 6, Imm: csr}).retires(h, want)
		plain(t, api.Inst{Kind: api.KindCsr, Fn: 2, Rd: 5, Rs1: 6, Imm: csr}).retires(h, want)
		for fn := 1; fn <= 3; fn++ {
			for _, i := range []api.Inst{{Kind: api.KindCsr, Fn: fn, Rd: 5, Rs1: 6, Imm: csr}, {Kind: api.KindCsrImm, Fn: fn, Rd: 5, Imm: csr}} {
				w := plain(t, i)
				w.traps("P6.5", sampleUser(), 2, w.get(start, 4))
			}
		}
	}
}

// P6.5: time is read, by users too, and an instruction that would write it is illegal; so is one on a CSR that is none.
func TestCsrInstructionsOnTimeAndNone(t *testing.T) {
	for _, h := range []api.Hart{sample(), sampleUser()} {
		for fn := 1; fn <= 3; fn++ {
			for _, kind := range []int{api.KindCsr, api.KindCsrImm} {
				for _, rs1 := range regs {
					w := plain(t, api.Inst{Kind: kind, Fn: fn, Rd: 7, Rs1: rs1, Imm: 0xc01})
					if fn != 1 && rs1 == 0 {
						w.retires(h, behind(with(h, 7, now), 4))
					} else {
						w.traps("P6.5", h, 2, w.get(start, 4))
					}
					for _, csr := range []int{0, 0x001, 0x106, 0x181, 0x300, 0xc00, 0xc02, 0xfff} {
						w := plain(t, api.Inst{Kind: kind, Fn: fn, Rd: 7, Rs1: rs1, Imm: csr})
						w.traps("P6.5", h, 2, w.get(start, 4))
					}
				}
			}
		}
	}
	plain(t, api.Inst{Kind: api.KindCsr, Fn: 1, Rd: 0, Rs1: 0, Imm: 0xc01}).traps("P6.5", sample(), 2, 0xc0101073)
}
