package board_test

import (
	"bytes"
	"testing"
)

// uartState is what a UART may be in ahead of a put.
type uartState struct {
	waits          int
	overrun, empty bool
	ier, fcr, lcr  uint64
}

// uartStates are all that are asked about.
func uartStates() (list []uartState) {
	for _, waits := range []int{0, 1, 15, 16} {
		for bits := range uint64(1 << 7) {
			for _, lcr := range []uint64{0, 0x80, 0x03, 0xff} {
				list = append(list, uartState{waits, bits&1 != 0, bits&2 != 0, bits >> 2 & 15, bits >> 6, lcr})
			}
		}
	}
	return list
}

// brings brings both UARTs, new ones, to a state. Whether it is empty can be told where IER's bit 1 is set alone.
func (p *pair) brings(s uartState) {
	p.t.Helper()
	p.write(uartLCR, 1, 0x80)
	p.write(uartData, 1, 0x12)
	p.write(uartIER, 1, 0x34)
	p.write(uartLCR, 1, 0)
	p.write(uartMCR, 1, 0x15)
	p.write(uartSCR, 1, 0x77)
	if s.overrun {
		p.in(0, pattern(17, 1))
	}
	p.write(uartCaus, 1, 2)
	p.write(uartIER, 1, 2)
	p.write(uartIER, 1, s.ier&2)
	if !s.empty {
		p.read(uartCaus, 1)
	}
	p.write(uartIER, 1, s.ier)
	p.in(0, pattern(s.waits, 2))
	p.write(uartCaus, 1, s.fcr)
	p.write(uartLCR, 1, s.lcr)
}

// step is a read of an offset of the UART, or, with a value from 0 on, a write.
type step struct {
	off uint64
	v   int
}

// probes are what a guest may do behind a put: what it is told by them brings out all that a UART holds, in other orders.
var probes = [][]step{
	{{2, -1}, {2, -1}, {5, -1}, {2, -1}, {0, -1}, {2, -1}},
	{{1, -1}, {3, -1}, {4, -1}, {7, -1}, {0, -1}, {1, -1}, {3, 0x80}, {0, -1}, {1, -1}, {3, 0}, {0, -1}, {1, -1}, {2, -1}},
	{{3, 0}, {1, 0}, {1, 2}, {2, -1}, {2, -1}},
	{{3, 0}, {1, -1}, {1, 2}, {2, -1}, {2, -1}},
	{{3, 0}, {1, 15}, {2, -1}, {5, -1}, {2, -1}, {2, 2}, {2, -1}, {2, -1}},
	{{5, -1}, {2, 2}, {2, -1}, {2, -1}},
	{{3, 0}, {0, 'z'}, {2, -1}, {5, -1}, {0, -1}, {2, -1}, {2, -1}},
}

// probe does a probe's steps to both.
func (p *pair) probe(steps []step) {
	p.t.Helper()
	for _, s := range steps {
		if s.v < 0 {
			p.read(uartData+s.off, 1)
		} else {
			p.write(uartData+s.off, 1, uint64(s.v))
		}
		p.up()
	}
}

// P16.4: Put sends, and turns nothing else, whatever the UART is in: LCR does not count, and whether it is empty stays.
func TestPut(t *testing.T) {
	raised := 0
	for _, s := range uartStates() {
		for i, steps := range probes {
			p := newPair(t, 1, nil, nil, lands[0])
			p.brings(s)
			was := p.up()
			raised += int(was >> 1)
			for n := range 1 + i%3 {
				p.put(byte(250 + 3*n))
				if p.up() != was {
					t.Fatalf("P16.4: %+v: a put turns the level", s)
				}
			}
			p.probe(steps)
			if got, want := p.b.Uart(), p.c.uartSent(); !bytes.Equal(got, want) {
				t.Fatalf("P16.4: %+v: Uart = %v, not %v", s, got, want)
			}
		}
	}
	if raised < 1000 {
		t.Errorf("only %d times the UART interrupted", raised)
	}
}

// P16.4: what is put and what the guest sends stand in their order, each byte once; every byte may be put.
func TestPutInOrder(t *testing.T) {
	p := newPair(t, 1, nil, nil, lands[0])
	var want []byte
	for i := range 600 {
		v := byte(i * 7)
		switch i % 3 {
		case 0:
			p.write(uartData, 1, uint64(v))
			want = append(want, v)
		case 1:
			p.put(v)
			want = append(want, v)
		default:
			p.write(uartLCR, 1, 0x80)
			p.put(v)
			p.write(uartData, 1, uint64(^v))
			p.reads(uartData, 1, uint64(^v))
			p.put(^v)
			p.write(uartLCR, 1, 0)
			want = append(want, v, ^v)
		}
	}
	if got := p.b.Uart(); !bytes.Equal(got, want) {
		t.Errorf("P16.4: Uart = %v, not %v", got, want)
	}
	p.same()
}

// P16.4: a put leaves the other devices alone.
func TestPutAlone(t *testing.T) {
	p := found(t, []int{3, 8, 1, 2}, lands[2])
	for _, slot := range []int{0, 2, 3} {
		p.rouse(slot)
	}
	p.copying(64, 3)
	p.put('x')
	p.same()
	if len(p.b.Console()) == 0 || string(p.b.Uart()) != "x" {
		t.Errorf("P16.4: Console = %q, Uart = %q", p.b.Console(), p.b.Uart())
	}
}
