package plat_test

import (
	"bytes"
	"testing"

	"citadel/plat"
)

// The faces that the chapter lists.
var (
	_ interface {
		Read(off uint64) byte
		Write(off uint64, v byte)
		In(v byte)
		Out() []byte
		Irq() bool
	} = plat.NewUart()
	_ interface {
		Read(off uint64, size int, now uint64) (uint64, bool)
	} = plat.NewClock()
	_ interface {
		Level(src int, up bool)
		Pulse(src int)
		Pending(hart int) bool
		Read(off uint64, size int) (uint64, bool)
		Write(off uint64, size int, v uint64) bool
	} = (*plat.Intc)(nil)
)

// P11.1: registers are 0 at first, nothing waits, nothing was sent, and it does not interrupt.
func TestUartAtFirst(t *testing.T) {
	u := plat.NewUart()
	wants(t, u, false)
	if out := u.Out(); len(out) != 0 {
		t.Errorf("P11.1: Out = %x", out)
	}
	for off, want := range []byte{0, 0, 1, 0, 0, 0x60, 0xb0, 0} {
		reads(t, u, uint64(off), want)
		reads(t, u, uint64(off), want)
	}
	u.Write(3, 0x80)
	for off, want := range []byte{0, 0, 1, 0x80, 0, 0x60, 0xb0, 0} {
		reads(t, u, uint64(off), want)
	}
	wants(t, u, false)
}

// P11.1: the chapter's example.
func TestUartExample(t *testing.T) {
	u := plat.NewUart()
	u.In(65)
	reads(t, u, 5, 0x61)
	reads(t, u, 0, 65)
	reads(t, u, 5, 0x60)
	u.Write(1, 1)
	u.In(66)
	wants(t, u, true)
	reads(t, u, 2, 4)
}

// P11.1: each register holds the bits that it has room for, by LCR's bit 7 those of the divisor, and turns no other one.
func TestUartHeld(t *testing.T) {
	registers := []struct {
		off        uint64
		lcr        []byte
		bits, cell byte // in held
	}{
		{0, []byte{0x80, 0xff, 0x83}, 0xff, 0},
		{1, []byte{0x80, 0xff, 0x83}, 0xff, 1},
		{1, []byte{0, 0x7f, 3}, 0x0f, 2},
		{4, []byte{0, 0x80, 0x7f, 0xff}, 0x1f, 3},
		{7, []byte{0, 0x80, 0x7f, 0xff}, 0xff, 4},
		{3, []byte{0, 0x80, 0x7f, 0xff}, 0xff, 5},
	}
	for _, r := range registers {
		for _, lcr := range r.lcr {
			for v := range 256 {
				u := plat.NewUart()
				u.Write(3, 0x80)
				u.Write(0, 0x5a)
				u.Write(1, 0xa5)
				u.Write(3, 0)
				u.Write(1, 0x0d)
				u.Write(4, 0x15)
				u.Write(7, 0x3c)
				u.Write(3, lcr)
				want := held(u)
				if want != [6]byte{0x5a, 0xa5, 0x0d, 0x15, 0x3c, lcr} {
					t.Fatalf("P11.1: the registers hold %x", want)
				}
				u.Write(r.off, byte(v))
				want[r.cell] = byte(v) & r.bits
				reads(t, u, r.off, want[r.cell])
				if got := held(u); got != want {
					t.Fatalf("P11.1: behind Write(%d, %#x) with LCR %#x: %x, not %x", r.off, v, lcr, got, want)
				}
				if out := u.Out(); len(out) != 0 {
					t.Fatalf("P11.1: Write(%d, %#x) with LCR %#x sends %x", r.off, v, lcr, out)
				}
			}
		}
	}
}

// P11.1: offsets 5 and 6 read as they do, whatever is written to them; nothing else turns.
func TestUartStatusIsNotWritten(t *testing.T) {
	for _, off := range []uint64{5, 6} {
		for v := range 256 {
			p := newPair(t)
			for i := range 17 {
				p.in(byte(i))
			}
			p.write(1, 7)
			p.write(off, byte(v))
			p.same()
			reads(t, p.u, 6, 0xb0)
			p.reveal()
		}
	}
}

// P11.1: what is no register reads 0, and nothing comes of a write, with LCR's bit 7 and without.
func TestUartNoRegister(t *testing.T) {
	for _, off := range noOffsets {
		for _, lcr := range []byte{0, 0x80, 0xff} {
			for _, v := range []byte{0, 1, 2, 3, 0x80, 0xff} {
				p := newPair(t)
				for i := range 17 {
					p.in(byte(i + 1))
				}
				p.write(3, 0x80)
				p.write(0, 0x11)
				p.write(1, 0x22)
				p.write(3, 0)
				p.write(0, 0x44)
				for _, off := range []uint64{1, 2, 4, 7} {
					p.write(off, 0x1d)
				}
				p.write(3, lcr)
				if got := p.read(off); got != 0 {
					t.Fatalf("P11.1: Read(%#x) = %#x", off, got)
				}
				p.write(off, v)
				if got := p.read(off); got != 0 {
					t.Fatalf("P11.1: Read(%#x) = %#x", off, got)
				}
				p.reveal()
			}
		}
	}
}

// P11.1, P11.5: 0 to 16 bytes wait, a 17th is lost, and so is each one behind it; those that wait come out in order.
func TestUartQueue(t *testing.T) {
	for n := range 40 {
		u := filled(n)
		waits := min(n, 16)
		line := byte(0x60)
		if waits > 0 {
			line = 0x61
		}
		if n > 16 {
			reads(t, u, 5, line+2)
		}
		for i := range waits {
			reads(t, u, 5, 0x61)
			reads(t, u, 0, byte(i+1))
		}
		for range 3 {
			reads(t, u, 5, 0x60)
			reads(t, u, 0, 0)
		}
	}
}

// P11.1: where a byte was read of a full queue, there is room for one, and for no more.
func TestUartQueueGoesRound(t *testing.T) {
	u := filled(16)
	for i := range 600 {
		reads(t, u, 0, byte(i+1))
		u.In(byte(i + 17))
		if i%7 == 0 {
			reads(t, u, 5, 0x61)
			u.In(0xee)
			reads(t, u, 5, 0x63)
			reads(t, u, 5, 0x61)
		}
	}
	for i := range 16 {
		reads(t, u, 0, byte(600+i+1))
	}
	reads(t, u, 5, 0x60)
}

// P11.1: with LCR's bit 7 no byte is taken out of the queue, though offset 0 is read.
func TestUartLatchSparesTheQueue(t *testing.T) {
	u := filled(2)
	u.Write(3, 0x80)
	u.Write(0, 9)
	reads(t, u, 0, 9)
	reads(t, u, 0, 9)
	reads(t, u, 5, 0x61)
	u.In(3)
	u.Write(3, 0x7f)
	for _, want := range []byte{1, 2, 3, 0} {
		reads(t, u, 0, want)
	}
}

// P11.1: overrun is told once by offset 5, and once more behind another loss; it is kept till it is told.
func TestUartOverrun(t *testing.T) {
	u := filled(16)
	reads(t, u, 5, 0x61)
	u.In(17)
	reads(t, u, 5, 0x63)
	reads(t, u, 5, 0x61)
	u.In(18)
	u.In(19)
	reads(t, u, 5, 0x63)
	reads(t, u, 5, 0x61)
	u.In(20)
	for range 16 {
		u.Read(0)
	}
	u.In(21)
	u.Write(2, 3)
	for _, off := range []uint64{0, 1, 2, 3, 4, 6, 7, 8} {
		u.Read(off)
	}
	reads(t, u, 5, 0x62)
	reads(t, u, 5, 0x60)
}

// P11.1: the cause 6 stays while the loss is not told by offset 5, and reading the cause takes nothing away.
func TestUartOverrunInterrupts(t *testing.T) {
	for _, queues := range []byte{0, 1} {
		more := queues * 0xc0
		u := filled(17)
		u.Write(2, queues)
		wants(t, u, false)
		u.Write(1, 4)
		for range 3 {
			wants(t, u, true)
			reads(t, u, 2, 6+more)
		}
		reads(t, u, 5, 0x63)
		wants(t, u, false)
		reads(t, u, 2, 1+more)
	}
}

// P11.1: empty is true behind a send and behind IER's bit 1 going from 0 to 1, and is told once by the cause 2.
func TestUartEmpty(t *testing.T) {
	for _, queues := range []byte{0, 1} {
		more := queues * 0xc0
		u := plat.NewUart()
		u.Write(2, queues)
		told := func() {
			t.Helper()
			wants(t, u, true)
			wants(t, u, true)
			reads(t, u, 2, 2+more)
			wants(t, u, false)
			reads(t, u, 2, 1+more)
		}
		u.Write(1, 2) // from 0 to 1
		told()
		u.Write(1, 2) // it stays 1
		u.Write(1, 0x0f)
		u.Write(1, 0xfe)
		u.Write(1, 2)
		wants(t, u, false)
		reads(t, u, 2, 1+more)
		u.Write(1, 0x0d) // back to 0
		wants(t, u, false)
		reads(t, u, 2, 1+more)
		u.Write(1, 0xf2) // and to 1 again
		told()
		for range 2 {
			u.Write(0, 'a') // a send
			told()
		}
		u.Write(0, 'b')
		u.Write(0, 'c') // two, told once
		told()
		u.Write(3, 0x80)
		u.Write(0, 'd') // the divisor is no send
		u.Write(1, 0)   // nor is it IER
		u.Write(1, 2)
		wants(t, u, false)
		reads(t, u, 2, 1+more)
		reads(t, u, 5, 0x60)
		u.Write(3, 0)
		u.Write(0, 'e')
		u.Write(1, 0) // while IER's bit 1 is 0 it is not told
		wants(t, u, false)
		reads(t, u, 2, 1+more)
		u.Write(1, 2)
		told()
	}
}

// P11.1: empty stays while the cause is another one, though that is read.
func TestUartEmptyWaits(t *testing.T) {
	u := filled(17)
	u.Write(1, 7)
	reads(t, u, 2, 6)
	reads(t, u, 2, 6)
	reads(t, u, 5, 0x63)
	for i := range 16 {
		reads(t, u, 2, 4)
		reads(t, u, 0, byte(i+1))
	}
	wants(t, u, true)
	reads(t, u, 2, 2)
	wants(t, u, false)
	reads(t, u, 2, 1)
}

// state is what a UART has been brought to.
type state struct {
	overrun, empty bool
	waits          int
	ier, fcr, lcr  byte
}

// come brings a pair to a state: where bytes are read of a full queue, that of the overrun stays.
func come(t *testing.T, s state) *pair {
	t.Helper()
	p := newPair(t)
	p.write(4, 0x12)
	p.write(7, 0x34)
	p.write(3, 0x80)
	p.write(0, 0x56)
	p.write(1, 0x78)
	p.write(3, 0)
	p.write(0, 0x9a)
	p.write(1, 2)
	p.read(2)
	n := s.waits
	if s.overrun {
		n = 17
	}
	for i := range n {
		p.in(byte(i + 1))
	}
	for range min(n, 16) - s.waits {
		p.read(0)
	}
	if s.empty {
		p.write(0, 0xbc)
	}
	p.write(1, s.ier)
	p.write(2, s.fcr)
	p.write(3, s.lcr)
	if p.c.overrun != s.overrun || p.c.empty != s.empty || len(p.c.queue) != s.waits || p.c.ier != s.ier || p.c.fcr != s.fcr || p.c.lcr != s.lcr {
		t.Fatalf("it came to %+v, not to %+v", p.c, s)
	}
	return p
}

// eachState brings a pair to every state, or to those with some numbers of bytes that wait, by LCR's that are given.
func eachState(t *testing.T, waits []int, lcrs []byte, do func(s state, p *pair)) {
	t.Helper()
	for bits := range 4 {
		for _, n := range waits {
			for ier := range byte(16) {
				for fcr := range byte(2) {
					for _, lcr := range lcrs {
						s := state{overrun: bits&1 == 1, empty: bits&2 == 2, waits: n, ier: ier, fcr: fcr, lcr: lcr}
						do(s, come(t, s))
					}
				}
			}
		}
	}
}

// P11.1: the cause, Irq, and what is left behind reading the cause, at every combination.
func TestUartCause(t *testing.T) {
	seen := map[byte]int{}
	eachState(t, []int{0, 1, 2, 15, 16}, []byte{0, 0x80}, func(s state, p *pair) {
		want := causeOf(s.overrun, s.waits > 0, s.empty, s.ier)
		seen[want]++
		wants(t, p.u, want != 1)
		reads(t, p.u, 2, want+s.fcr*0xc0)
		if want == 2 {
			s.empty = false
		}
		want = causeOf(s.overrun, s.waits > 0, s.empty, s.ier)
		wants(t, p.u, want != 1)
		reads(t, p.u, 2, want+s.fcr*0xc0)
	})
	for _, cause := range []byte{1, 2, 4, 6} {
		if seen[cause] < 50 {
			t.Errorf("the cause %d came only %d times", cause, seen[cause])
		}
	}
}

// calls are calls of a UART: those that there are, with values at which its bits go each way.
func calls() []call {
	list := []call{{'I', 0, 0xcd}}
	for _, off := range []uint64{0, 1, 2, 3, 4, 5, 6, 7, 8, 1 << 32, ones} {
		list = append(list, call{'R', off, 0})
		for _, v := range []byte{0, 1, 2, 3, 4, 0x0f, 0x10, 0x7f, 0x80, 0xff} {
			list = append(list, call{'W', off, v})
		}
	}
	return list
}

// P11.1: every call, in every state: what it answers, and all that it leaves.
func TestUartEveryCallInEveryState(t *testing.T) {
	waits, lcrs := []int{0, 1, 15, 16}, []byte{0, 0x80}
	for _, x := range calls() {
		eachState(t, waits, lcrs, func(_ state, p *pair) {
			p.do(x)
			p.reveal()
		})
	}
}

// P11.1: FCR's bit 1 empties the queue, its bit 0 stays beside the cause; no other bit counts.
func TestUartFCR(t *testing.T) {
	for v := range 256 {
		for _, n := range []int{0, 1, 15, 16} {
			for _, was := range []byte{0, 1} {
				for _, lcr := range []byte{0, 0x80} {
					u := filled(n)
					u.Write(2, was)
					u.Write(3, lcr)
					u.Write(2, byte(v))
					reads(t, u, 2, 1+byte(v&1)*0xc0)
					left := n
					if v&2 != 0 {
						left = 0
					}
					if left == 0 {
						reads(t, u, 5, 0x60)
					} else {
						reads(t, u, 5, 0x61)
					}
					u.Write(3, 0)
					u.In(0x77)
					if left == 16 {
						reads(t, u, 5, 0x63)
					}
					for i := range left {
						reads(t, u, 0, byte(i+1))
					}
					if left < 16 {
						reads(t, u, 0, 0x77)
					}
					reads(t, u, 5, 0x60)
				}
			}
		}
	}
}

// P11.1: behind FCR's bit 1 there is room for 16 again.
func TestUartEmptiedHasRoom(t *testing.T) {
	u := filled(17)
	u.Write(2, 2)
	reads(t, u, 5, 0x62)
	for i := range 16 {
		u.In(byte(0x40 + i))
	}
	reads(t, u, 5, 0x61)
	u.In(0xff)
	reads(t, u, 5, 0x63)
	for i := range 16 {
		reads(t, u, 0, byte(0x40+i))
	}
}

// P11.1, P11.5: all that was sent is told, in order, as often as it is asked; what comes in is not.
func TestUartOut(t *testing.T) {
	u := plat.NewUart()
	var want []byte
	for i := range 3000 {
		v := byte(i * 7)
		u.Write(0, v)
		want = append(want, v)
		u.In(v + 1)
		u.Write(3, 0x80)
		u.Write(0, v+2)
		u.Write(3, 0x7f)
		if i%97 == 0 && !bytes.Equal(u.Out(), want) {
			t.Fatalf("P11.5: behind %d bytes Out = %x", i+1, u.Out())
		}
	}
	for range 2 {
		if !bytes.Equal(u.Out(), want) {
			t.Fatal("P11.5: Out is not what was sent")
		}
	}
}

// R3: what Out tells is new memory, spare room too.
func TestUartOutIsNew(t *testing.T) {
	u := plat.NewUart()
	var want []byte
	for i := range 70 {
		a, b := u.Out(), u.Out()
		for _, list := range [][]byte{a, b} {
			list = list[:cap(list)]
			for j := range list {
				list[j] = 0xee
			}
		}
		_ = append(a, 0xdd)
		if !bytes.Equal(u.Out(), want) {
			t.Fatalf("R3: Out = %x, not %x", u.Out(), want)
		}
		for j := range b {
			b[j] = 0xcc
		}
		if len(a) > 0 && a[0] != 0xee {
			t.Fatal("R3: two answers share memory")
		}
		u.Write(0, byte(i))
		want = append(want, byte(i))
	}
}

// R4: two UARTs have nothing in common.
func TestTwoUarts(t *testing.T) {
	a, b := newPair(t), newPair(t)
	for i := range 20 {
		a.in(byte(i))
		a.write(0, byte(i))
		b.same()
	}
	for _, off := range []uint64{1, 2, 4, 7, 3, 0, 1} {
		a.write(off, 0xf5)
		b.same()
	}
	b.in(0xab)
	b.write(1, 1)
	b.write(0, 0xba)
	b.same()
	a.same()
	b.reveal()
	a.reveal()
}
