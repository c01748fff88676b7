package virtdev_test

import (
	"bytes"
	"math"
	"reflect"
	"testing"

	"citadel/api"
	"citadel/virtdev"
)

// P14.1: three kinds are devices, and no other number is.
func TestNewKinds(t *testing.T) {
	if !reflect.DeepEqual(kinds, []int{1, 2, 3}) {
		t.Fatalf("the kinds are %v", kinds)
	}
	for _, kind := range kinds {
		if d, e := virtdev.New(kind, nil); d == nil || e != api.OK || d.Kind() != kind {
			t.Errorf("P14.1: New(%d) = %v, %d", kind, d, e)
		}
	}
	for _, kind := range []int{-1, 0, -2, -3, 4, 5, 7, api.DevEngine, 9, 257, 258, 1<<32 + 1, 1<<32 + 2, math.MaxInt, math.MinInt, math.MinInt + 1, math.MinInt + 2} {
		for _, disk := range [][]byte{nil, {}, newDisk(1)} {
			if d, e := virtdev.New(kind, disk); d != nil || e != api.ErrArg {
				t.Errorf("P14.1: New(%d, %d bytes) = %v, %d", kind, len(disk), d, e)
			}
		}
	}
}

// P14.1: a disk is of whole sectors, of at most MaxDisk; what is no disk has no bytes.
func TestNewDisks(t *testing.T) {
	const most = api.MaxDisk * sector
	for n, may := range map[int]bool{
		0: true, 1: false, 2: false, 511: false, 512: true, 513: false, 1023: false, 1024: true, 1025: false, 768: false,
		most - 512: true, most - 1: false, most: true, most + 1: false, most + 511: false, most + 512: false, 2 * most: false, 1 << 20: false,
	} {
		disk := pattern(n, 1)
		d, e := virtdev.New(api.DevBlk, disk)
		if (e == api.OK) != may || (d != nil) != may || !may && e != api.ErrArg {
			t.Errorf("P14.1: New of a disk of %d bytes = %v, %d", n, d, e)
		}
		if d != nil {
			if got := d.Disk(); !bytes.Equal(got, disk) {
				t.Errorf("P14.1: Disk tells %d bytes, not %d", len(got), n)
			}
			if v, ok := d.Read(sectorsReg, 4); v != uint64(n/512) || !ok {
				t.Errorf("P14.2: %d sectors of %d bytes", v, n)
			}
		}
		for _, kind := range []int{api.DevNet, api.DevConsole} {
			d, e := virtdev.New(kind, disk)
			if may := n == 0; (e == api.OK) != may || (d != nil) != may || !may && e != api.ErrArg {
				t.Errorf("P14.1: New(%d, %d bytes) = %v, %d", kind, n, d, e)
			}
		}
	}
}

// R3: what is handed in for a disk is neither turned nor kept, its spare room neither.
func TestNewKeepsNoList(t *testing.T) {
	all := pattern(4*sector, 3)
	was := bytes.Clone(all)
	disk := all[sector : 2*sector]
	p := ready(t, api.DevBlk, disk, lands[0], 4)
	p.fill(p.data(0), head(1, 0))
	p.fill(p.data(16), bytes.Repeat([]byte{99}, sector))
	p.ask(0, segs(seg(p.data(0), 16+sector)), segs(seg(p.data(1000), 1)))
	if !bytes.Equal(all, was) {
		t.Error("R3: the list that was handed in is another")
	}
	clear(all)
	if !bytes.Equal(p.d.Disk(), bytes.Repeat([]byte{99}, sector)) {
		t.Error("R3: the list that was handed in is kept")
	}
}

// P14.1: a device begins reset, with nothing sent, and nothing that waits.
func TestNewIsReset(t *testing.T) {
	for _, home := range lands {
		for _, kind := range kinds {
			p := newPair(t, kind, nil, home)
			p.isReset()
			p.is(0, 0)
			if len(p.d.Out()) != 0 || len(p.d.Disk()) != 0 || len(p.take()) != 0 || p.d.Irq() {
				t.Errorf("P14.1: kind %d: something was sent, or interrupts", kind)
			}
		}
	}
}

// isReset fails if a register tells what is not told of a device that is reset, with a memory all of whose pages it
// leaves as they are; queues that are made ready by 0x44 alone are none.
func (p *pair) isReset() {
	p.t.Helper()
	for off, want := range map[uint64]uint64{
		magicReg: 0x74726976, versionReg: 2, kindReg: uint64(p.c.kind), vendorReg: 0x554d4551,
		offeredReg: 0, maxReg: 64, readyReg: 0, intsReg: 0, statusReg: 0,
	} {
		p.reads(off, want)
	}
	was := p.l.all(p.t)
	for q := range uint64(3) {
		p.set(selQueue, q)
		p.reads(readyReg, 0)
		p.set(readyReg, 1) // a size of 0 may not be
		p.reads(readyReg, 0)
		p.set(noticeReg, q)
	}
	p.set(selQueue, 0)
	p.set(statusReg, 8) // no features are accepted
	p.reads(statusReg, 0)
	if !bytes.Equal(was, p.l.all(p.t)) {
		p.t.Fatal("P14.6: memory was turned")
	}
}

// P14.1, P14.2: a disk has one queue, the others two.
func TestQueues(t *testing.T) {
	for _, kind := range kinds {
		p := newPair(t, kind, nil, lands[0])
		for _, q := range []uint64{0, 1, 2, 3, 64, 1 << 16, 1<<31 - 1, 1 << 31, 1<<32 - 1} {
			p.set(selQueue, q)
			if q == 0 || q == 1 && kind != api.DevBlk {
				p.reads(maxReg, api.MaxQueue)
			} else {
				p.reads(maxReg, 0)
			}
		}
	}
}

// R3: what is told is new memory, spare room too.
func TestToldIsNew(t *testing.T) {
	spoil := func(b []byte) {
		b = b[:cap(b)]
		for i := range b {
			b[i] ^= 0xff
		}
	}
	d, _ := virtdev.New(api.DevBlk, newDisk(2))
	spoil(d.Disk())
	if !bytes.Equal(d.Disk(), newDisk(2)) {
		t.Error("R3: Disk's answer is kept")
	}
	p := ready(t, api.DevConsole, nil, lands[0], 4)
	for i := range 9 {
		p.fill(p.data(0), pattern(i*11, i))
		p.ask(1, segs(seg(p.data(0), i*11)), nil)
		spoil(p.d.Out())
		p.same()
	}
	p = ready(t, api.DevNet, nil, lands[0], 4)
	for i := range 9 {
		p.fill(p.data(0), pattern(200, i))
		p.ask(1, segs(seg(p.data(0), 100+i)), nil)
		p.ask(1, segs(seg(p.data(0), 120+i)), nil)
		list := p.take()
		spoil(list[0])
		if !bytes.Equal(list[1], pattern(200, i)[12:120+i]) {
			t.Fatal("R3: two frames of one answer share memory")
		}
		spoil(list[1])
		list = list[:cap(list)]
		clear(list)
	}
}

// R4: two devices have nothing in common.
func TestApart(t *testing.T) {
	disk := newDisk(3)
	p, other := ready(t, api.DevBlk, disk, lands[0], 4), ready(t, api.DevBlk, disk, lands[0], 4)
	p.fill(p.data(0), head(1, 1))
	p.ask(0, segs(seg(p.data(0), 16+sector)), segs(seg(p.data(1000), 1)))
	if !bytes.Equal(other.d.Disk(), disk) || bytes.Equal(p.d.Disk(), disk) {
		t.Error("R4: a disk turns another")
	}
	other.is(4, 0)
	p.is(4, 1)
	for _, kind := range []int{api.DevNet, api.DevConsole} {
		p, other := ready(t, kind, nil, lands[0], 4), ready(t, kind, nil, lands[0], 4)
		p.ask(1, segs(seg(p.data(0), 40)), nil)
		p.in(pattern(20, 1))
		if len(other.d.Out())+len(other.d.Take()) != 0 {
			t.Error("R4: a device sends what another does")
		}
		other.lay(0, 0, nil, segs(seg(other.data(0), 200)))
		other.offer(0, 0)
		other.notice(0)
		other.gives(0)
	}
}
