package board_test

import (
	"math/rand"
	"testing"

	"citadel/api"
)

// life is a pair that a guest by chance drives, and what comes in and moves by chance.
type life struct {
	*pair
	r     *rand.Rand
	count map[string]int
}

// newLife is one of a seed.
func newLife(t *testing.T, seed int64) *life {
	t.Helper()
	r := rand.New(rand.NewSource(seed))
	devs := some(r, orders(kinds)...)
	if len(devs) < 3 && r.Intn(4) > 0 {
		devs = some(r, orders(kinds)[1:]...)
	}
	p := newPair(t, 1+r.Intn(3), devs, diskOf(devs, r.Intn(4)), lands[r.Intn(len(lands))])
	return &life{p, r, map[string]int{}}
}

// bases are where slots are laid: apart, over one another, and over what stands for ever.
var bases = []uint64{0x40000000, 0x40000000, 0x40001000, 0x40002000, 0x40003000, 0x40003000, api.UartBase, api.ClockBase, api.IntcBase + 0x3000, api.PciBase, api.PciBase + 0x8000, 0, 0xfffff000}

// value is a number that may be written.
func (l *life) value() uint64 {
	return some(l.r, 0, 1, 2, 3, 4, 7, 8, 15, 0x80, 0xff, ones, uint64(1)<<l.r.Intn(64), l.r.Uint64())
}

// size is a size, mostly that one.
func (l *life) size(mostly int) int {
	if l.r.Intn(12) == 0 {
		return some(l.r, append(notSizes, sizes...)...)
	}
	return mostly
}

// asks reads or writes at an address.
func (l *life) asks(addr uint64, size int, v uint64) {
	l.t.Helper()
	ok := false
	if l.r.Intn(2) == 0 {
		ok = l.write(addr, size, v)
	} else {
		_, ok = l.read(addr, size)
	}
	if ok {
		l.count["done"]++
	} else {
		l.count["refused"]++
	}
}

// uart asks the UART.
func (l *life) uart() {
	l.t.Helper()
	off, v := uint64(l.r.Intn(9)), l.value()
	if off == 3 && l.r.Intn(4) > 0 {
		v &^= 0x80
	}
	l.asks(api.UartBase+off, l.size(1), v)
}

// intc asks the interrupt controller.
func (l *life) intc() {
	l.t.Helper()
	hart := uint64(l.r.Intn(l.c.harts + 1))
	switch l.r.Intn(4) {
	case 0:
		l.asks(intcLets+4*hart, l.size(4), some(l.r, ones, l.r.Uint64()))
	case 1:
		if v, _ := l.read(intcClaim+4*hart, 4); v != 0 {
			l.count["claimed"]++
		}
	case 2:
		l.write(intcClaim+4*hart, 4, some(l.r, 1, 8, 9, 10, 11, 16, 17, 18, 19, l.r.Uint64()))
	default:
		l.asks(api.IntcBase+uint64(l.r.Intn(api.IntcSize+8)), l.size(4), l.value())
	}
}

// config asks configuration space.
func (l *life) config() {
	l.t.Helper()
	slot := l.r.Intn(len(l.c.kinds) + 1)
	switch l.r.Intn(6) {
	case 0, 1:
		l.write(space(slot)+base, 4, some(l.r, bases...)|uint64(l.r.Intn(page)))
	case 2, 3:
		l.write(space(slot)+command, 2, some(l.r, 2, 6, 2, l.value()))
	case 4:
		l.asks(space(l.r.Intn(9))+uint64(l.r.Intn(260)), l.size(some(l.r, 1, 2, 4)), l.value())
	default:
		l.asks(api.PciBase+uint64(l.r.Intn(0x9000)), l.size(4), l.value())
	}
}

// answersAt is where a slot that is found answers.
func (l *life) answersAt() (slot int, at uint64, ok bool) {
	if len(l.c.kinds) == 0 {
		return 0, 0, false
	}
	slot = l.r.Intn(len(l.c.kinds))
	at, _ = l.c.bus.Bar(slot)
	found, _, ok := l.c.find(at + sizeReg)
	clear := at&^(page-1) >= 0x40000000 && at < 0xfffff000
	return slot, at, ok && clear && found == slot
}

// device drives the device of a slot that is found.
func (l *life) device() {
	l.t.Helper()
	slot, at, ok := l.answersAt()
	if !ok {
		return
	}
	if l.c.kinds[slot] == api.DevEngine {
		l.engine(at)
		return
	}
	switch x := l.r.Intn(20); {
	case x < 3:
		l.begin(slot)
	case x < 14:
		q := l.r.Intn(2)
		if l.c.kinds[slot] == api.DevBlk {
			q = 0
		}
		read := pattern(some(l.r, 0, 16, 16+sector, 12+14, 100), l.r.Intn(9))
		if len(read) >= 16 && l.c.kinds[slot] == api.DevBlk {
			copy(read, []byte{byte(l.r.Intn(2)), 0, 0, 0, 0, 0, 0, 0, byte(l.r.Intn(4)), 0, 0, 0, 0, 0, 0, 0})
		}
		l.offer(slot, q, read, some(l.r, 0, 1, 1+sector, 1600))
		if l.r.Intn(3) > 0 {
			l.notice(slot, q)
		}
	case x < 17:
		l.set(at+ackReg, l.value())
	default:
		l.asks(at+4*uint64(l.r.Intn(0x80)), l.size(4), l.value())
	}
}

// engine drives the engine.
func (l *life) engine(at uint64) {
	l.t.Helper()
	switch l.r.Intn(4) {
	case 0:
		l.copying(some(l.r, 8, 8, 16, 64, 12, 0), uint64(l.r.Intn(18)))
	default:
		l.asks(at+4*uint64(l.r.Intn(16)), l.size(some(l.r, 4, 8)), l.value())
	}
}

// anything is one thing that happens.
func (l *life) anything() {
	l.t.Helper()
	switch x := l.r.Intn(200); {
	case x < 50:
		l.uart()
	case x < 80:
		l.intc()
	case x < 85:
		l.now += some(l.r, 1, uint64(l.r.Intn(1<<31)), l.r.Uint64())
		l.asks(api.ClockBase+4*uint64(l.r.Intn(3)), l.size(4), l.value())
	case x < 110:
		l.config()
	case x < 150:
		l.device()
	case x < 170:
		port := l.r.Intn(len(l.c.kinds)+3) - 1
		if l.in(port, pattern(some(l.r, 0, 1, 5, 14, 20, 64, 100, 1514), l.r.Intn(99))) {
			l.count["came in"]++
		}
	case x < 185:
		if l.dma() {
			l.count["engine"]++
		}
	case x < 191:
		l.put(byte(l.r.Intn(256)))
	case x < 195:
		l.count["taken"] += len(l.take())
	case x < 199:
		l.asks(some(l.r, append(nowhere, l.r.Uint64(), l.r.Uint64()>>32)...), some(l.r, sizes...), l.value())
	default:
		if l.r.Intn(3) == 0 && l.unplug() {
			l.count["unplugged"]++
		}
	}
	for hart := range l.c.harts {
		if l.b.Pending(hart) {
			l.count["pending"]++
		}
	}
}

// P16.2 to P16.4: lives of boards are as the chapter says.
func TestLives(t *testing.T) {
	count := map[string]int{}
	for seed := range int64(1000) {
		l := newLife(t, seed)
		for i := range 400 {
			l.anything()
			if i%80 == 79 {
				l.same()
			}
		}
		l.same()
		for what, n := range l.count {
			count[what] += n
		}
		count["sent"] += len(l.b.Uart())
		count["console"] += len(l.b.Console())
	}
	for what, least := range map[string]int{"done": 50000, "refused": 30000, "claimed": 600, "came in": 5000, "engine": 9000, "taken": 100, "unplugged": 200, "pending": 50000, "sent": 8000, "console": 30000} {
		if count[what] < least {
			t.Errorf("only %d times: %s", count[what], what)
		}
	}
}

// P16.5: boards have nothing in common: lives that go on by turns are each as the chapter says.
func TestBoardsApart(t *testing.T) {
	for seed := range int64(20) {
		var lives []*life
		for i := range int64(4) {
			lives = append(lives, newLife(t, 1000+4*seed+i))
		}
		for range 200 {
			for _, l := range lives {
				l.anything()
			}
		}
		for _, l := range lives {
			l.same()
		}
	}
}
