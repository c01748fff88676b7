package board_test

import (
	"math"
	"slices"
	"testing"

	"citadel/api"
	"citadel/board"
	"citadel/engine"
	"citadel/ram"
)

// notKinds are numbers of no kind of device of a board.
var notKinds = []int{0, -1, -2, -3, -8, 4, 5, 6, 7, 9, 10, 16, 255, 256, 257, 258, 259, 264, 1 << 31, 1 << 32, 1<<32 + 1, 1<<32 + 2, 1<<32 + 8, -1 << 32, math.MaxInt, math.MinInt, math.MinInt + 1, math.MinInt + 8}

// may holds Right and New against the chapter.
func may(t *testing.T, harts int, devs []int, disk []byte) bool {
	t.Helper()
	m, _ := ram.New(0, 1)
	want := right(harts, devs, disk)
	if got := board.Right(harts, devs, disk); got != want {
		t.Errorf("P16.1: Right(%d, %v, %d bytes) = %v", harts, devs, len(disk), got)
	}
	b, e := board.New(harts, devs, disk, engine.Flat(m))
	if want && (b == nil || e != api.OK) || !want && (b != nil || e != api.ErrArg) {
		t.Errorf("P16.1: New(%d, %v, %d bytes) = %v, %d", harts, devs, len(disk), b, e)
	}
	return want
}

// is fails if Right and New are not as the chapter says, or that is not what is wanted.
func is(t *testing.T, want bool, harts int, devs []int, disk []byte) {
	t.Helper()
	if may(t, harts, devs, disk) != want {
		t.Errorf("P16.1: %d harts, devices %v and %d bytes may be: %v", harts, devs, len(disk), !want)
	}
}

// P16.1: from 1 to MaxVcpus harts, whatever else there is.
func TestHarts(t *testing.T) {
	for _, devs := range [][]int{nil, {2}, {8, 3, 2, 1}} {
		disk := diskOf(devs, 3)
		for harts := 1; harts <= 64; harts++ {
			is(t, true, harts, devs, disk)
		}
		for _, harts := range []int{0, -1, -2, -64, 65, 66, 128, 255, 256, 257, 1 << 31, 1 << 32, 1<<32 + 1, -1 << 32, math.MaxInt, math.MinInt, math.MinInt + 1} {
			is(t, false, harts, devs, disk)
		}
	}
}

// P16.1: the controller is one of so many harts.
func TestControllerOfSoManyHarts(t *testing.T) {
	for harts := 1; harts <= 64; harts++ {
		p := newPair(t, harts, nil, nil, lands[0])
		for h := range uint64(66) {
			if ok := p.write(intcLets+4*h, 4, 2); ok != (h < uint64(harts)) {
				t.Errorf("P16.1: of %d harts: Write of hart %d's = %v", harts, h, ok)
			}
		}
		p.write(uartIER, 1, 1)
		p.in(0, []byte{1})
		for h := -1; h < 66; h++ {
			if got := p.b.Pending(h); got != (h >= 0 && h < harts) {
				t.Errorf("P16.3: of %d harts: Pending(%d) = %v", harts, h, got)
			}
		}
		for _, h := range []int{-1 << 32, 1 << 32, math.MaxInt, math.MinInt} {
			if p.b.Pending(h) {
				t.Errorf("P16.3: Pending(%d)", h)
			}
		}
	}
}

// P16.1: each kind once at most: all lists of up to four numbers round the kinds, and all orders of the kinds.
func TestDevs(t *testing.T) {
	numbers := []int{0, 1, 2, 3, 4, 7, 8, 9}
	lists := [][]int{nil}
	for range 4 {
		var longer [][]int
		for _, l := range lists {
			for _, x := range numbers {
				longer = append(longer, append(slices.Clone(l), x))
			}
		}
		for _, l := range longer {
			may(t, 1, l, nil)
		}
		lists = longer
	}
	for _, devs := range append(orders(kinds), nil, []int{}) {
		is(t, true, 1, devs, nil)
		is(t, true, 64, devs, diskOf(devs, 64))
	}
}

// P16.1: a kind that is none is refused at each place among good ones.
func TestNotKinds(t *testing.T) {
	for _, bad := range notKinds {
		is(t, false, 1, []int{bad}, nil)
		for _, devs := range orders(kinds) {
			for at := range devs {
				list := slices.Clone(devs)
				list[at] = bad
				is(t, false, 1, list, nil)
				is(t, false, 1, slices.Insert(slices.Clone(devs), at, bad), nil)
			}
		}
	}
}

// P16.1: a kind twice is refused, at whichever two places.
func TestTwice(t *testing.T) {
	for _, devs := range orders(kinds) {
		for _, twice := range devs {
			for at := range len(devs) + 1 {
				is(t, false, 1, slices.Insert(slices.Clone(devs), at, twice), nil)
			}
		}
	}
}

// P16.1: more than MaxDevs are refused, of whatever kinds.
func TestTooManyDevs(t *testing.T) {
	for _, n := range []int{5, 7, 8, 9, 10, 255, 256, 257, 65536, 1 << 20} {
		list := make([]int, n)
		for _, fill := range []func(i int) int{func(int) int { return 0 }, func(i int) int { return kinds[i%4] }, func(i int) int { return i }, func(i int) int { return i + 1 }, func(int) int { return 8 }} {
			for i := range list {
				list[i] = fill(i)
			}
			is(t, false, 1, list, nil)
		}
	}
}

// P16.1: a disk has whole sectors, at most MaxDisk; and none without its device.
func TestDisks(t *testing.T) {
	var with, without [][]int
	for _, devs := range orders(kinds) {
		if slices.Contains(devs, api.DevBlk) {
			with = append(with, devs)
		} else {
			without = append(without, devs)
		}
	}
	sizes := []int{1, 2, 100, 255, 256, 511, 513, 1023, 1025, 1536, 64*512 - 1, 64*512 + 1, 65*512 - 1, 65 * 512, 65*512 + 1, 66 * 512, 128 * 512, 1 << 20}
	for n := range 65 {
		sizes = append(sizes, 512*n)
	}
	for _, n := range sizes {
		disk := pattern(n, n)
		for _, devs := range with {
			is(t, n%512 == 0 && n <= 64*512, 1, devs, disk)
		}
		for _, devs := range without {
			is(t, n == 0, 1, devs, disk)
		}
	}
	is(t, true, 1, []int{api.DevBlk}, []byte{})
	is(t, true, 1, nil, make([]byte, 0, 512))
}

// P16.1: what is wrong in two ways is refused as well.
func TestWrongTwice(t *testing.T) {
	for _, harts := range []int{0, 65, 1} {
		for _, devs := range [][]int{{2, 2}, {4}, {1, 2, 9}, {1}} {
			for _, n := range []int{1, 511, 512, 65 * 512} {
				is(t, false, harts, devs, make([]byte, n))
			}
		}
	}
}

// P16.1: a new board has the UART, the clock, the controller, the slots with their devices, the disk with its bytes and
// the engine, all as new; nothing is up, nothing was sent.
func TestNewBoard(t *testing.T) {
	for _, home := range lands {
		for _, devs := range orders(kinds) {
			for _, sectors := range []int{0, 1, 64} {
				disk := diskOf(devs, sectors)
				p := newPair(t, 3, devs, disk, home)
				p.ups()
				for i := range 8 {
					want := uint64(0xffffffff)
					if i < len(devs) {
						want = uint64(0x1040+devs[i])<<16 | 0x1af4
					}
					p.reads(space(i), 4, want)
				}
				if !slices.Equal(p.b.Disk(), disk) || len(p.b.Uart())+len(p.b.Console())+len(p.b.Take()) != 0 {
					t.Fatalf("P16.4: a new board has sent, or its disk is another")
				}
				for i, kind := range devs {
					p.on(i, bar(i))
					if kind == api.DevEngine {
						p.reads(bar(i)+doneReg, 8, 0)
					} else {
						p.reads(bar(i)+8, 4, uint64(kind))
					}
				}
				p.same()
			}
		}
	}
}

// P16.1: without DevEngine the engine is not looked at: none is needed, and one that runs is left alone.
func TestEngineNotLookedAt(t *testing.T) {
	for _, devs := range orders([]int{api.DevNet, api.DevBlk, api.DevConsole}) {
		l := newFlat(t, 0)
		for reg, v := range map[uint64]uint64{srcReg: 0x1000, dstReg: 0x2000, lenReg: 64, msiReg: api.MsiBase} {
			l.e.Write(reg, 8, v)
		}
		l.e.Write(controlReg, 8, 1)
		for _, e := range []*engine.Engine{nil, l.e} {
			b, errno := board.New(1, devs, nil, e)
			if errno != api.OK {
				t.Fatalf("P16.1: New: %d", errno)
			}
			if b.Dma() || b.Unplug() || b.Dma() {
				t.Errorf("P16.4: %v: an engine is there", devs)
			}
			for i := range 5 {
				b.Read(l.m, space(i), 4, 0)
				b.Write(l.m, space(i)+base, 4, bar(i))
				b.Write(l.m, space(i)+command, 2, answers)
				b.Write(l.m, bar(i)+controlReg, 8, 2)
				b.In(l.m, i+1, []byte("x"))
			}
		}
		if v, _ := l.e.Read(doneReg, 8); v != 1 || !l.e.Busy() {
			t.Errorf("P16.1: %v: the engine has status %d", devs, v)
		}
	}
}

// P16.1: the engine that is handed in is the one behind the slot, as it stands: it runs already.
func TestEngineAsItIs(t *testing.T) {
	for _, devs := range orders(kinds) {
		at := slices.Index(devs, api.DevEngine)
		if at < 0 {
			continue
		}
		l := newFlat(t, 0)
		l.host.Fill(0x1000, pattern(16, 1))
		for reg, v := range map[uint64]uint64{srcReg: 0x1000, dstReg: 0x2000, lenReg: 16} {
			l.e.Write(reg, 8, v)
		}
		l.e.Write(controlReg, 8, 1)
		b, _ := board.New(1, devs, nil, l.e)
		b.Write(l.m, space(at)+base, 4, bar(0))
		b.Write(l.m, space(at)+command, 2, answers)
		if v, ok := b.Read(l.m, bar(0)+doneReg, 8, 0); v != 1 || !ok {
			t.Errorf("P16.1: status %d, %v", v, ok)
		}
		if !b.Dma() || !b.Dma() || !b.Dma() {
			t.Error("P16.4: Dma is false")
		}
		if got, _ := l.host.Bytes(0x2000, 16); !slices.Equal(got, pattern(16, 1)) {
			t.Errorf("P16.4: %v were copied", got)
		}
		if v, ok := l.e.Read(doneReg, 8); v != 2 || !ok {
			t.Errorf("P16.1: status %d, %v", v, ok)
		}
	}
}

// R3: devices and disk that are handed in are not changed, nor their spare room, and not kept.
func TestNewKeepsNothing(t *testing.T) {
	allDevs := []int{3, 2, 1, 7, 7, 7}
	allDisk := append(pattern(2*sector, 1), pattern(99, 2)...)
	devs, disk := allDevs[:3], allDisk[:2*sector]
	p := newPair(t, 1, devs, disk, lands[0])
	if !slices.Equal(allDevs, []int{3, 2, 1, 7, 7, 7}) || !slices.Equal(allDisk, append(pattern(2*sector, 1), pattern(99, 2)...)) {
		t.Error("R3: what was handed in was turned")
	}
	p.c = newChapter(1, []int{3, 2, 1}, pattern(2*sector, 1), nil)
	for i := range allDevs {
		allDevs[i] = 8
	}
	clear(allDisk)
	p.same()
	for i := range 3 {
		p.on(i, bar(i))
	}
	p.same()
	if !slices.Equal(p.b.Disk(), pattern(2*sector, 1)) {
		t.Error("R3: the disk is what was handed in")
	}
}
