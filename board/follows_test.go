package board_test

import (
	"math/rand"
	"reflect"
	"testing"

	"citadel/api"
	"citadel/board"
	"citadel/engine"
	"citadel/ram"
)

// refused asks a board for all that it must refuse, whatever it is in, where no slot answers at these addresses.
func (p *pair) refused() {
	p.t.Helper()
	all := append(notSizes, sizes...)
	for _, size := range all {
		for off := range uint64(8) {
			if size != 1 {
				p.refusesAlone(uartData+off, size)
			}
		}
		if size != 4 {
			p.refusesAlone(api.ClockBase, size)
			p.refusesAlone(api.ClockBase+4, size)
			p.refusesAlone(intcClaim, size)
			p.refusesAlone(intcLets, size)
		}
		if size != 1 && size != 2 && size != 4 {
			p.refusesAlone(space(0)+command, size)
			p.refusesAlone(space(7), size)
		}
		for _, addr := range []uint64{0, 0x0bfffffc, 0x0c004000, 0x10000008, 0x10001008, 0x10002000, 0x2ffffffc, 0x30000100, 0x30001ffc, 0x30008000, 0x50000000, 0x80000000, 1 << 32, 1<<32 | uartData, ones} {
			p.refusesAlone(addr, size)
		}
	}
	for slot, kind := range p.c.kinds {
		at, _ := p.c.bus.Bar(slot)
		if found, _, ok := p.c.find(at); !ok || found != slot {
			continue
		}
		for _, size := range all {
			if size != 4 && (kind != api.DevEngine || size != 8) {
				p.refusesAlone(at+statusReg, size)
				p.refusesAlone(at+controlReg, size)
			}
			p.refusesAlone(at+0x200, size)
			p.refusesAlone(at+0x39, size)
		}
	}
	for _, port := range append(notPorts, len(p.c.kinds)+1) {
		if p.b.In(p.l.m, port, pattern(20, 1)) {
			p.t.Fatalf("P16.4: In(%d)", port)
		}
	}
	for slot, kind := range p.c.kinds {
		if p.b.In(p.l.m, 1+slot, nil) || p.b.In(p.l.m, 1+slot, pattern(1515, 1)) || (kind == api.DevBlk || kind == api.DevEngine) && p.b.In(p.l.m, 1+slot, pattern(20, 1)) {
			p.t.Fatalf("P16.4: In of kind %d", kind)
		}
	}
	if !p.c.plugged && (p.b.Dma() || p.b.Unplug()) {
		p.t.Fatal("P16.4: there is no engine")
	}
}

// refusesAlone fails if the board does not refuse; the chapter's is not asked.
func (p *pair) refusesAlone(addr uint64, size int) {
	p.t.Helper()
	v, ok := p.b.Read(p.l.m, addr, size, p.now^ones)
	if v != 0 || ok || p.b.Write(p.l.m, addr, size, 3) || p.b.Write(p.l.m, addr, size, ones) {
		p.t.Fatalf("P16.2: at %#x, of size %d, it is not refused", addr, size)
	}
}

// P16.5: what is refused turns nothing: a life that is full of it goes on as one without it.
func TestRefusedTurnsNothing(t *testing.T) {
	for seed := range int64(60) {
		l := newLife(t, 5000+seed)
		for i := range l.c.kinds {
			l.on(i, bar(i))
		}
		for range 20 {
			for range 8 {
				switch l.r.Intn(6) {
				case 0:
					l.uart()
				case 1:
					l.intc()
				case 2:
					l.in(l.r.Intn(len(l.c.kinds)+1), pattern(20, 1))
				case 3:
					l.dma()
				default:
					l.device()
				}
			}
			l.refused()
			l.told()
			l.same()
		}
		if l.unplug() {
			l.refused()
		}
		l.same()
		l.reveal()
	}
}

// reveal brings out of both what they tell only by turning it.
func (p *pair) reveal() {
	p.t.Helper()
	p.probe(probes[1])
	p.probe(probes[0])
	for range 17 {
		p.read(uartData, 1)
		p.read(uartLine, 1)
	}
	for hart := range uint64(p.c.harts) {
		p.write(intcLets+4*hart, 4, ones)
		for range 32 {
			p.read(intcClaim+4*hart, 4)
		}
	}
	for range 3 {
		p.dma()
	}
	p.take()
	p.same()
}

// P16.5: what one board of two is led through, the other, of the same lists of devices and bytes, is not: it is as new.
func TestBoardsHaveNothingInCommon(t *testing.T) {
	for i, devs := range orders(kinds) {
		home, disk := lands[i%len(lands)], diskOf(devs, 2)
		p, q := newPair(t, 2, devs, disk, home), newPair(t, 2, devs, disk, home)
		for slot, kind := range devs {
			p.on(slot, bar(slot))
			if kind == api.DevEngine {
				p.copying(8, 1)
				p.dma()
				continue
			}
			p.rouse(slot)
			p.in(1+slot, pattern(20, 1))
			p.offer(slot, 0, append([]byte{0: 1, 15: 0}, pattern(sector, 9)...), 1)
			p.notice(slot, 0)
		}
		p.in(0, []byte("abc"))
		p.put('x')
		p.write(uartIER, 1, 5)
		p.set(intcLets, ones)
		p.read(api.ClockBase, 4)
		p.unplug()
		q.same()
		q.reveal()
		p.same()
	}
}

// P16.5, R4: two boards that are led alike say the same, wherever they are in the machine's memory.
func TestLedAlike(t *testing.T) {
	for seed := range int64(30) {
		var told [2][]any
		for i := range told {
			l := newLife(t, 9000+seed)
			for range 200 {
				l.anything()
			}
			told[i] = []any{l.b.Uart(), l.b.Console(), l.b.Disk(), l.b.Take(), l.l.all(), l.up(), l.b.Pending(0)}
		}
		if !reflect.DeepEqual(told[0], told[1]) {
			t.Fatalf("R4: seed %d: boards that are led alike say different things", seed)
		}
	}
}

// liar is a memory that says something else each time, whatever was written.
type liar struct {
	r   *rand.Rand
	may bool // it refuses nothing
}

func (l *liar) says() bool { return l.may || l.r.Intn(100) != 0 }

func (l *liar) Has(uint64, int) bool { return l.says() }

func (l *liar) Read(uint64, int) (uint64, bool) {
	return some(l.r, 0, 1, 1, 2, 2, 3, 16, 513, 1<<32-1, l.r.Uint64()>>60, l.r.Uint64()), l.says()
}

func (l *liar) Write(uint64, int, uint64) bool { return l.says() }

// R1: every call ends, and none panics, at all arguments, whatever the memory says.
func TestNoise(t *testing.T) {
	for seed := range int64(200) {
		r := rand.New(rand.NewSource(seed))
		m := &liar{r, seed%2 == 0}
		host, _ := ram.New(0, 3)
		devs := some(r, orders(kinds)...)
		disk := diskOf(devs, r.Intn(65))
		b, _ := board.New(1+r.Intn(64), devs, disk, engine.Flat(host))
		for slot := range devs {
			b.Write(m, space(slot)+base, 4, bar(slot))
			b.Write(m, space(slot)+command, 2, answers)
		}
		places := []uint64{api.UartBase, api.ClockBase, api.IntcBase, api.PciBase, bar(0), bar(1), bar(2), bar(3), bar(0), 0, ones - 5000}
		for range 2000 {
			addr := some(r, places...) + some(r, 0, 4, 8, uint64(r.Intn(256)), uint64(r.Intn(0x9000)))
			size := some(r, append(notSizes, 1, 2, 4, 4, 4, 4, 8)...)
			switch r.Intn(12) {
			case 0:
				b.In(m, some(r, append(notPorts, 0, 1, 2, 3, 4)...), make([]byte, r.Intn(1600)))
			case 1:
				b.Dma()
			case 2:
				b.Put(byte(r.Intn(256)))
			case 3:
				b.Pending(some(r, append(notPorts, r.Intn(65))...))
			case 4:
				b.Take()
				if r.Intn(300) == 0 {
					b.Unplug()
				}
			case 5, 6, 7:
				if v, ok := b.Read(m, addr, size, r.Uint64()); !ok && v != 0 {
					t.Fatalf("R2: Read(%#x, %d) = %#x, false", addr, size, v)
				}
			default:
				b.Write(m, addr, size, some(r, 0, 1, 2, 4, 8, 64, ones, r.Uint64()))
			}
		}
		if got := len(b.Disk()); got != len(disk) {
			t.Fatalf("P16.4: a disk of %d bytes has %d", len(disk), got)
		}
	}
}
