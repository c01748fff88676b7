package virtdev_test

import (
	"bytes"
	"fmt"
	"math"
	"testing"

	"citadel/api"
)

// busy is a device of a kind all of whose registers hold something: both queues ready, features accepted, interrupts,
// things that wait and things that were sent.
func busy(t *testing.T, kind int) *pair {
	t.Helper()
	var disk []byte
	if kind == api.DevBlk {
		disk = newDisk(5)
	}
	p := ready(t, kind, disk, lands[0], 8)
	p.set(selAccepted, 1)
	p.set(acceptReg, 1)
	p.set(statusReg, 15)
	out := len(p.c.queues) - 1
	p.fill(p.data(0), pattern(64, 1))
	p.lay(out, 0, segs(seg(p.data(0), 40)), nil)
	p.offer(out, 0)
	p.notice(out)
	if len(p.gave(out)) != 1 {
		t.Fatal("P14.3: nothing was given back")
	}
	p.in(pattern(20, 2))
	p.set(selOffered, 1)
	p.same()
	return p
}

// P14.2: registers are of size 4, at multiples of 4, up to 0x1fc; nothing else is read or written, and nothing is
// turned by it.
func TestRegistersWhere(t *testing.T) {
	for _, kind := range kinds {
		p := busy(t, kind)
		offs := []uint64{0x1fc, 0x1fd, 0x1fe, 0x1ff, 0x200, 0x204, 0x800, 0xffc, 0x1000, 1 << 32, 1<<32 + 0x70, 1 << 63, 1<<63 + 0x70, ones, ones - 3, ones - 1}
		for off := range uint64(0x240) {
			offs = append(offs, off)
		}
		for _, off := range offs {
			for _, size := range []int{-8, -4, -1, 0, 1, 2, 3, 4, 5, 6, 8, 16, 1<<32 + 4, math.MaxInt, math.MinInt} {
				is := size == 4 && off%4 == 0 && off <= 0x1fc
				v, ok := p.read(off, size)
				if ok != is || !is && v != 0 {
					t.Fatalf("P14.2: Read(%#x, %d) = %#x, %v", off, size, v, ok)
				}
				if is {
					continue
				}
				for _, v := range []uint64{0, 1, ones} {
					if p.d.Write(p.l.m, off, size, v) {
						t.Fatalf("P14.2: Write(%#x, %d) = true", off, size)
					}
				}
			}
			p.told()
		}
		p.same()
		p.worksAsBefore()
	}
}

// worksAsBefore fails if what is not told of a busy device is not as busy left it: the selected queue, both queues, what
// waits.
func (p *pair) worksAsBefore() {
	p.t.Helper()
	out := len(p.c.queues) - 1
	p.reads(maxReg, api.MaxQueue)
	p.reads(readyReg, 1)
	p.reads(offeredReg, 1)
	p.reads(statusReg, 15)
	p.reads(intsReg, 1)
	p.set(ackReg, 1)
	if out == 1 {
		p.lay(0, 0, nil, segs(seg(p.data(500), 100)))
		p.offer(0, 0)
		p.notice(0)
		want := append([]byte{0, 0, 0, 0, 0, 0, 0, 0, 0, 0, 1, 0}, pattern(20, 2)...)
		if p.c.kind == api.DevConsole {
			want = pattern(20, 2)
		}
		p.gives(0, given{0, uint64(len(want))})
		if !bytes.Equal(p.bytes(p.data(500), len(want)), want) {
			p.t.Fatal("P14.4: what waited is another")
		}
		p.reads(intsReg, 1)
	}
	p.ask(out, segs(seg(p.data(0), 40)), segs(seg(p.data(500), 1)))
	p.reads(intsReg, 1)
	p.take()
	p.same()
}

// P14.2: what is written where no Write stands has no effect, with true.
func TestWritesWithoutEffect(t *testing.T) {
	takes := map[uint64]bool{0x14: true, 0x24: true, 0x20: true, 0x30: true, 0x38: true, 0x44: true, 0x50: true, 0x64: true, 0x70: true,
		0x80: true, 0x84: true, 0x90: true, 0x94: true, 0xa0: true, 0xa4: true}
	for _, kind := range kinds {
		p := busy(t, kind)
		for off := uint64(0); off <= 0x1fc; off += 4 {
			for _, v := range []uint64{0, 1, 4, 64, 1 << 31, 1<<32 - 1, 1 << 32, ones} {
				if !takes[off] && !p.write(off, 4, v) {
					t.Fatalf("P14.2: Write(%#x) = false", off)
				}
			}
		}
		p.same()
		p.worksAsBefore()
	}
}

// P14.2: what has no Read is read as 0, whatever was written to it.
func TestReadsOfNothing(t *testing.T) {
	tells := map[uint64]bool{0: true, 4: true, 8: true, 0xc: true, 0x10: true, 0x34: true, 0x44: true, 0x60: true, 0x70: true, 0x100: true}
	for _, kind := range kinds {
		p := busy(t, kind)
		for _, q := range []uint64{0, 1, 2} {
			p.set(selQueue, q)
			for _, off := range []uint64{0x14, 0x20, 0x24, 0x30, 0x38, 0x64, 0x80, 0x84, 0x90, 0x94, 0xa0, 0xa4} {
				if off != selQueue {
					p.set(off, 0xffffffff)
				}
			}
			for off := uint64(0); off <= 0x1fc; off += 4 {
				if !tells[off] {
					p.reads(off, 0)
				}
			}
		}
	}
}

// P14.2: how many sectors a disk has.
func TestSectors(t *testing.T) {
	for _, n := range []int{0, 1, 2, 3, 31, 63, api.MaxDisk} {
		p := newPair(t, api.DevBlk, newDisk(n), lands[0])
		p.reads(sectorsReg, uint64(n))
		p.reads(sectorsReg+4, 0)
	}
	for _, kind := range []int{api.DevNet, api.DevConsole} {
		p := newPair(t, kind, nil, lands[0])
		p.reads(sectorsReg, 0)
		p.reads(sectorsReg+4, 0)
	}
}

// P14.2: of v the low four bytes count, at each register.
func TestLowFourBytes(t *testing.T) {
	const high = 0xdeadbeef << 32
	for _, kind := range kinds {
		p := newPair(t, kind, newDisk(0), lands[1])
		p.set(selOffered, high|1)
		p.reads(offeredReg, 1)
		p.set(selAccepted, high|1)
		p.set(acceptReg, high|1)
		p.set(statusReg, high|8)
		p.reads(statusReg, 8)
		p.set(selQueue, high)
		p.reads(maxReg, 64)
		p.size = 4
		p.set(sizeReg, high|4)
		for off, at := range map[uint64]uint64{descReg: p.desc(0), availReg: p.avail(0), usedReg: p.used(0)} {
			p.set(off, high|at&0xffffffff)
			p.set(off+4, high|at>>32)
		}
		p.set(readyReg, high)
		p.reads(readyReg, 0)
		p.set(readyReg, high|1)
		p.reads(readyReg, 1)
		p.set(statusReg, high|4)
		p.reads(statusReg, 4)
		p.in(newFrame(20, 1))
		p.lay(0, 0, segs(seg(p.data(0), 16)), segs(seg(p.data(100), 40)))
		p.offer(0, 0)
		p.set(noticeReg, high)
		if len(p.gave(0)) != 1 {
			t.Error("P14.2: the queue was not served")
		}
		p.reads(intsReg, 1)
		p.set(ackReg, high)
		p.reads(intsReg, 1)
		p.set(ackReg, high|1)
		p.reads(intsReg, 0)
		p.set(statusReg, high) // its low four bytes are 0: a reset
		p.reads(statusReg, 0)
		p.reads(readyReg, 0)
		p.reads(offeredReg, 0)
		p.same()
	}
}

// P14.2: features are offered in selection 1 alone.
func TestOffered(t *testing.T) {
	for _, kind := range kinds {
		p := newPair(t, kind, nil, lands[0])
		p.reads(offeredReg, 0)
		for _, sel := range []uint64{0, 1, 2, 1, 3, 1, 1 << 31, 1, 1<<32 - 1, 1, 0, 257, 1<<16 + 1} {
			p.set(selOffered, sel)
			if sel == 1 {
				p.reads(offeredReg, 1)
			} else {
				p.reads(offeredReg, 0)
			}
			p.set(selAccepted, 1)
		}
		p.set(selOffered, 0)
		p.reads(offeredReg, 0) // the selection of accepted features is another
	}
}

// P14.2: bit 3 of status stays if the accepted features are 0 and, of selection 1, 1; it is held against them just when
// status is written.
func TestFeatures(t *testing.T) {
	list := []uint64{0, 1, 2, 3, 1 << 31, 1<<32 - 1}
	for _, low := range list {
		for _, high := range list {
			p := newPair(t, api.DevNet, nil, lands[0])
			p.set(selAccepted, 0)
			p.set(acceptReg, low)
			p.set(selAccepted, 1)
			p.set(acceptReg, high)
			for _, sel := range []uint64{2, 3, 1 << 31, 1<<32 - 1} { // of others nothing
				p.set(selAccepted, sel)
				p.set(acceptReg, high^1|2)
			}
			right := low == 0 && high == 1
			for _, v := range []uint64{8, 11, 15, 0x8f, 0x108} {
				want := v & 0xff
				if !right {
					want &^= 8
				}
				p.set(statusReg, v)
				p.reads(statusReg, want)
			}
			p.set(statusReg, 7)
			p.reads(statusReg, 7)
		}
	}
	p := newPair(t, api.DevNet, nil, lands[0])
	p.set(acceptReg, 1) // of selection 0
	p.set(statusReg, 8)
	p.reads(statusReg, 0)
	p.set(acceptReg, 0)
	p.set(selAccepted, 1)
	p.set(acceptReg, 1)
	p.set(statusReg, 8)
	p.reads(statusReg, 8)
	p.set(acceptReg, 0)
	p.reads(statusReg, 8)
	p.set(statusReg, 9)
	p.reads(statusReg, 1)
}

// P14.2: status holds the low 8 bits of v, but for bits 3 and 6.
func TestStatus(t *testing.T) {
	for _, kind := range kinds {
		for _, fine := range []bool{false, true} {
			p := newPair(t, kind, nil, lands[0])
			if fine {
				p.set(selAccepted, 1)
				p.set(acceptReg, 1)
			}
			for v := uint64(1); v < 0x300; v++ {
				want := v & 0xff &^ 64
				if !fine {
					want &^= 8
				}
				p.set(statusReg, v)
				p.reads(statusReg, want)
			}
			for _, v := range []uint64{1 << 8, 1 << 16, 1 << 31, 0xffffff00} { // no reset
				p.set(statusReg, 4)
				p.set(selOffered, 1)
				p.set(statusReg, v)
				p.reads(statusReg, 0)
				p.reads(offeredReg, 1)
				p.set(statusReg, v|0x85)
				p.reads(statusReg, 0x85)
			}
		}
	}
}

// kill has a queue die of an index that is too far ahead.
func (p *pair) kill(q int) {
	p.t.Helper()
	p.poke(p.avail(q)+2, 2, p.offered[q]+uint64(p.size)+1)
	if q == 0 {
		p.in(pattern(20, 1))
	}
	p.notice(q)
	if !p.c.queues[q].Dead() {
		p.t.Fatal("the queue is not dead")
	}
}

// P14.2: bit 6 of status stays as it was, whatever is written, till a reset.
func TestStatusBroken(t *testing.T) {
	for _, kind := range kinds {
		for q := range len(newChapter(kind, nil).queues) {
			p := ready(t, kind, nil, lands[0], 4)
			p.is(4, 0)
			p.kill(q)
			p.is(4|64, 2)
			for _, v := range []uint64{1, 4, 64, 0x80, 0xff, 0xbf, 0x100, 0xffffff00} {
				p.set(statusReg, v)
				p.reads(statusReg, v&0xf7|64)
			}
			p.set(ackReg, 1)
			p.reads(intsReg, 2)
			p.set(ackReg, 0xfffffffd)
			p.reads(intsReg, 2)
			p.set(ackReg, 2)
			p.is(64, 0)
			p.set(selQueue, uint64(q)) // the queue's own reset does not mend the device
			p.set(readyReg, 0)
			p.reads(readyReg, 0)
			p.set(readyReg, 1)
			p.reads(readyReg, 1)
			p.reads(statusReg, 64)
			p.set(statusReg, 0)
			p.is(0, 0)
		}
	}
}

// P14.2: each queue has registers of its own; of a queue that is not there they are read as 0, and written without
// effect.
func TestQueueRegisters(t *testing.T) {
	for _, home := range lands {
		for _, kind := range []int{api.DevNet, api.DevConsole} {
			for _, order := range [][]int{{0, 1}, {1, 0}} {
				p := newPair(t, kind, nil, home)
				p.size = 4
				for _, q := range order {
					p.set(selQueue, uint64(q))
					p.set(sizeReg, 4)
				}
				for _, x := range []struct {
					off uint64
					at  func(q int) uint64
				}{{descReg, p.desc}, {availReg, p.avail}, {usedReg, p.used}} {
					for _, q := range order {
						p.set(selQueue, uint64(q))
						p.set(x.off+4, x.at(q)>>32)
						p.set(x.off, x.at(q)&0xffffffff)
					}
				}
				for _, q := range []uint64{2, 3, 1<<32 - 1} { // no such queue
					p.set(selQueue, q)
					p.reads(maxReg, 0)
					for _, off := range []uint64{sizeReg, descReg, descReg + 4, availReg, availReg + 4, usedReg, usedReg + 4} {
						p.set(off, 0xffffffff)
					}
					p.set(readyReg, 1)
					p.reads(readyReg, 0)
				}
				p.set(selQueue, uint64(order[1]))
				p.set(readyReg, 1)
				p.reads(readyReg, 1)
				p.set(selQueue, 2)
				p.reads(readyReg, 0)
				p.set(readyReg, 0)
				p.set(selQueue, uint64(order[0]))
				p.reads(readyReg, 0)
				p.set(readyReg, 1)
				p.reads(readyReg, 1)
				p.set(readyReg, 0)
				p.reads(readyReg, 0)
				p.set(selQueue, uint64(order[1]))
				p.reads(readyReg, 1)
				p.set(selQueue, uint64(order[0]))
				p.set(readyReg, 1) // as they were written: the queue's reset took nothing of it
				p.reads(readyReg, 1)
				p.set(statusReg, 4)
				p.in(newFrame(14, 1))
				for _, q := range order {
					p.lay(q, 0, nil, segs(seg(p.data(0), 26)))
					p.offer(q, 0)
					p.notice(q)
					if len(p.gave(q)) != 1 {
						t.Errorf("P14.2: queue %d is not where it was set up (%s)", q, p.l.name)
					}
				}
				p.same()
			}
		}
	}
}

// P14.2: what Setup refuses does not make the queue ready, and nothing is turned; mended, it does.
func TestReadyRefused(t *testing.T) {
	good := map[uint64]uint64{sizeReg: 4, descReg: 0x100, descReg + 4: 0, availReg: 0x400, availReg + 4: 0, usedReg: 0x800, usedReg + 4: 0}
	for _, kind := range kinds {
		for _, x := range []struct {
			off, v uint64
			may    bool
		}{
			{sizeReg, 0, false}, {sizeReg, 1, true}, {sizeReg, 2, true}, {sizeReg, 3, false}, {sizeReg, 5, false}, {sizeReg, 32, true},
			{sizeReg, 63, false}, {sizeReg, 64, true}, {sizeReg, 65, false}, {sizeReg, 128, false}, {sizeReg, 1 << 31, false}, {sizeReg, 1<<32 - 1, false}, {sizeReg, 1<<16 + 4, false},
			{descReg, 8, false}, {descReg, 0x101, false}, {descReg, 0xfffffff0, true}, {descReg, 0xffffffff, false},
			{descReg + 4, 1<<28 - 1, true}, {descReg + 4, 1 << 28, false}, {descReg + 4, 1 << 31, false}, {descReg + 4, 1<<32 - 1, false},
			{availReg, 1, false}, {availReg, 2, true}, {availReg, 0xfffffffe, true}, {availReg + 4, 1<<28 - 1, true}, {availReg + 4, 1 << 28, false}, {availReg + 4, 1 << 31, false},
			{usedReg, 1, false}, {usedReg, 2, false}, {usedReg, 4, true}, {usedReg, 0xfffffffc, true}, {usedReg + 4, 1<<28 - 1, true}, {usedReg + 4, 1 << 28, false}, {usedReg + 4, 1 << 31, false},
		} {
			p := newPair(t, kind, nil, lands[0])
			for off, v := range good {
				p.set(off, v)
			}
			p.set(x.off, x.v)
			for _, v := range []uint64{2, 3, 1 << 31, 1<<32 - 1, 0x101} { // another value: nothing
				p.set(readyReg, v)
				p.reads(readyReg, 0)
			}
			p.set(readyReg, 1)
			if v, _ := p.read(readyReg, 4); (v == 1) != x.may {
				t.Errorf("P14.2: register %#x is %#x: ready %d", x.off, x.v, v)
			}
			p.set(x.off, good[x.off])
			p.set(readyReg, 1)
			p.reads(readyReg, 1)
			p.same()
		}
	}
}

// P14.2: a queue that is ready stays as it was set up: neither what is written to its registers then nor another 1
// turns it; with 0 it is as new, and begins anew with what was written.
func TestReadyTwice(t *testing.T) {
	for _, kind := range kinds {
		q := len(newChapter(kind, nil).queues) - 1
		p := ready(t, kind, nil, lands[0], 4)
		p.set(selQueue, uint64(q))
		for i := range 3 {
			p.ask(q, segs(seg(p.data(0), 30)), segs(seg(p.data(99), 1)))
			p.setup(q, 8, p.data(0x1000), p.data(0x1400), p.data(0x1800))
			for _, v := range []uint64{1, 2, 3, 1<<32 - 1} {
				p.set(readyReg, v)
				p.reads(readyReg, 1)
			}
			if got := p.peek(p.used(q)+2, 2); got != uint64(i+1) {
				t.Fatalf("P14.2: %d were given back", got)
			}
		}
		p.set(readyReg, 0)
		p.set(readyReg, 0)
		p.reads(readyReg, 0)
		p.notice(q)
		p.set(readyReg, 1)
		p.reads(readyReg, 1)
		p.poke(p.data(0x1000), 8, p.data(0))
		p.poke(p.data(0x1008), 4, 30)
		p.poke(p.data(0x1400+4), 2, 0)
		p.poke(p.data(0x1400+2), 2, 1)
		p.notice(q)
		if got := p.peek(p.data(0x1800+2), 2); got != 1 {
			t.Errorf("P14.2: set up anew, %d were given back", got)
		}
		p.same()
	}
}

// P14.2: a reset leaves a device as it was made, but for its disk, what was sent, and the frames not taken; what waits
// to come in is gone.
func TestReset(t *testing.T) {
	for _, kind := range kinds {
		for _, v := range []uint64{0, 1 << 32, 0xffffffff << 32} {
			p := busy(t, kind)
			if kind == api.DevBlk {
				p.fill(p.data(0), head(1, 2))
				p.ask(0, segs(seg(p.data(0), 16+sector)), segs(seg(p.data(1000), 1)))
			}
			disk, out := p.d.Disk(), p.d.Out()
			p.kill(len(p.c.queues) - 1)
			p.is(15|64, 3)
			p.set(selQueue, 7)
			p.set(statusReg, v)
			p.is(0, 0)
			p.isReset()
			p.set(selOffered, 0)
			if !bytes.Equal(p.d.Disk(), disk) || !bytes.Equal(p.d.Out(), out) {
				t.Error("P14.2: a reset turns the disk, or what was sent")
			}
			if n := len(p.take()); (n == 1) != (kind == api.DevNet) {
				t.Errorf("P14.2: %d frames behind a reset", n)
			}
			p.begin(8)
			if kind == api.DevBlk {
				continue
			}
			p.lay(0, 0, nil, segs(seg(p.data(0), 100)))
			p.offer(0, 0)
			p.seen[0] = p.peek(p.used(0)+2, 2)
			p.notice(0)
			p.gives(0) // what waited is gone
		}
	}
}

// P14.2: a reset takes the accepted features, the selections, and the queues' sizes and addresses.
func TestResetRegisters(t *testing.T) {
	for _, kind := range kinds {
		for _, first := range []uint64{4, 1, 64, 0x100} {
			p := busy(t, kind)
			p.set(selQueue, uint64(len(p.c.queues)-1))
			p.set(selAccepted, 1)
			p.set(statusReg, 0)
			p.reads(offeredReg, 0)
			p.set(acceptReg, 1) // of selection 0 again
			p.set(statusReg, first|8)
			p.reads(statusReg, first&0xff&^64)
			p.set(statusReg, 0)
			p.set(selAccepted, 1)
			p.set(statusReg, first|8)
			p.reads(statusReg, first&0xff&^64)
			p.set(acceptReg, 1)
			p.set(statusReg, first|8)
			p.reads(statusReg, first&0xff&^64|8)
			p.set(statusReg, 0)
			for q := range p.c.queues {
				p.setup(q, 4, p.desc(q), p.avail(q), p.used(q))
				p.reads(readyReg, 1)
			}
			p.set(statusReg, 0)
			for q := range uint64(len(p.c.queues)) {
				p.set(selQueue, q)
				p.set(readyReg, 1)
				p.reads(readyReg, 0) // no size
				p.set(sizeReg, 4)
				p.set(readyReg, 1)
				p.reads(readyReg, 1) // at 0, 0, 0
			}
			p.same()
		}
	}
}

// P14.2: behind a reset the queues' addresses are 0: the used ring lies there.
func TestResetAddresses(t *testing.T) {
	p := ready(t, api.DevConsole, nil, lands[0], 4)
	p.set(statusReg, 0)
	p.set(sizeReg, 1)
	p.set(readyReg, 1)
	p.set(statusReg, 4)
	// One descriptor at 0, whose address's low bytes are the available ring's flags and index, and the used ring's.
	p.poke(0, 8, uint64(1)<<16)
	p.poke(8, 4, 5)
	p.poke(12, 2, written)
	p.in([]byte("ab"))
	if got := fmt.Sprintf("%x %x", p.bytes(0, 16), p.bytes(1<<16, 5)); got != "00000100000000000200000002000000 6162000000" {
		t.Errorf("P14.2: %s", got)
	}
	p.same()
}

// P14.2: bits of v are taken away from the interrupts, and no others.
func TestTakeAway(t *testing.T) {
	for v := range uint64(8) {
		p := busy(t, api.DevNet)
		p.reads(intsReg, 1)
		p.kill(1)
		p.reads(intsReg, 3)
		p.set(ackReg, v)
		p.is(15|64, 3&^v)
		p.set(ackReg, 1<<32-4)
		p.is(15|64, 3&^v)
		p.set(ackReg, 1<<32-1)
		p.is(15|64, 0)
	}
}

// P14.2: a notice counts while status has bit 2, whatever else it has, and for queues that are there.
func TestNotice(t *testing.T) {
	for _, kind := range kinds {
		q := len(newChapter(kind, nil).queues) - 1
		for status := uint64(1); status < 256; status++ {
			p := ready(t, kind, nil, lands[0], 4)
			p.set(statusReg, status)
			p.lay(q, 0, segs(seg(p.data(0), 30)), segs(seg(p.data(99), 1)))
			p.offer(q, 0)
			for _, other := range []uint64{2, 3, 64, 1 << 16, 1 << 31, 1<<32 - 1, uint64(1 - q)} {
				if q == 0 || other != 0 {
					p.set(noticeReg, other)
				}
			}
			p.gives(q)
			p.notice(q)
			if got := len(p.gave(q)); (got == 1) != (status&4 != 0) {
				t.Fatalf("P14.2: status %#x: %d were given back", status, got)
			}
		}
	}
}
