package virtdev_test

import (
	"bytes"
	"slices"
	"testing"

	"citadel/api"
	"citadel/virtdev"
)

// framed is a frame as it comes in: behind 12 bytes, of which only byte 10 is not 0.
func framed(b []byte) []byte { return append([]byte{10: 1, 11: 0}, b...) }

// P14.3: behind the first 12 bytes what goes out is a frame, if it has from 14 to MaxFrame bytes.
func TestFrameOutLengths(t *testing.T) {
	for _, home := range lands {
		p := ready(t, api.DevNet, nil, home, 4)
		for _, n := range []int{0, 1, 11, 12, 13, 24, 25, 26, 27, 100, 1513, 1525, 1526, 1527, 1538, 2000, 4096} {
			b := pattern(n, n)
			p.fill(p.data(0), b)
			if got := p.ask(1, segs(seg(p.data(0), n)), nil); got != 0 {
				t.Errorf("P14.3: %d bytes out: %d were written", n, got)
			}
			list := p.take()
			if is := n >= 12+14 && n <= 12+1514; is && (len(list) != 1 || !bytes.Equal(list[0], b[12:])) || !is && len(list) != 0 {
				t.Errorf("P14.3: %d bytes out: %d frames", n, len(list))
			}
			if len(p.d.Take()) != 0 {
				t.Error("P14.1: a frame is taken twice")
			}
			p.same()
		}
		p.is(4, 1)
	}
}

// P14.3: a frame that goes out may be split over pieces anywhere; pieces to write do not count, and are not written.
func TestFrameOutSplit(t *testing.T) {
	for _, home := range lands {
		p := ready(t, api.DevNet, nil, home, 64)
		for _, n := range []int{12 + 14, 12 + 100, 12 + api.MaxFrame} {
			for _, cuts := range [][]int{
				{}, {0}, {1}, {11}, {12}, {13}, {25}, {26}, {12, 14}, {5, 7, 6, 6}, {0, 0, 12, 0, 1, 1}, {1, 1, 1, 1, 1, 1, 1, 1, 1, 1, 1, 1, 1, 1, 1, 1},
			} {
				read, b := split(p.data(0), n, cuts...), pattern(n, len(cuts))
				p.spread(read, b)
				p.fill(p.data(0x3000), pattern(50, 1))
				for _, write := range [][]api.Seg{nil, segs(seg(p.data(0x3000), 50))} {
					if got := p.ask(1, read, write); got != 0 {
						t.Errorf("P14.3: %d were written", got)
					}
					if list := p.take(); len(list) != 1 || !bytes.Equal(list[0], b[12:]) {
						t.Errorf("P14.3: a frame of %d, cut at %v: %d frames", n-12, cuts, len(list))
					}
					if !bytes.Equal(p.bytes(p.data(0x3000), 50), pattern(50, 1)) {
						t.Error("P14.3: a card writes what goes out")
					}
				}
			}
		}
		if p.ask(1, nil, segs(seg(p.data(0x3000), 50))) != 0 || len(p.take()) != 0 {
			t.Error("P14.3: a frame of nothing")
		}
		p.same()
	}
}

// P14.3: with MaxIn frames waiting to be taken another one is lost, whatever is given back; taken, there is room again.
func TestFrameOutMany(t *testing.T) {
	p := ready(t, api.DevNet, nil, lands[0], 4)
	send := func(i int) {
		t.Helper()
		p.fill(p.data(0), pattern(40, i))
		if p.ask(1, segs(seg(p.data(0), 40)), nil) != 0 {
			t.Error("P14.3: something was written")
		}
	}
	for _, n := range []int{1, 2, api.MaxIn - 1, api.MaxIn, api.MaxIn + 1, api.MaxIn + 5} {
		for i := range n {
			send(i)
		}
		list := p.take()
		if len(list) != min(n, api.MaxIn) {
			t.Fatalf("P14.3: of %d frames %d wait", n, len(list))
		}
		for i, b := range list {
			if !bytes.Equal(b, pattern(40, i)[12:]) {
				t.Fatalf("P14.6: frame %d of %d is another", i, n)
			}
		}
		if len(p.take()) != 0 {
			t.Error("P14.1: frames are taken twice")
		}
	}
	// Frames that wait to come in do not count for those that wait to be taken, nor the other way round.
	for i := range api.MaxIn {
		send(i)
		if !p.in(newFrame(14, i)) {
			t.Fatal("P14.4: In = false")
		}
	}
	if p.in(newFrame(14, 1)) {
		t.Error("P14.4: one more than MaxIn wait")
	}
	if len(p.take()) != api.MaxIn || p.in(newFrame(14, 1)) {
		t.Error("P14.3: what waits to come in, and what waits to be taken, are counted together")
	}
}

// P14.4: frames that come in have from 14 to MaxFrame bytes.
func TestFrameInLengths(t *testing.T) {
	for _, home := range lands {
		p := ready(t, api.DevNet, nil, home, 4)
		for _, n := range []int{0, 1, 12, 13, 14, 15, 26, 60, 1513, 1514, 1515, 1526, 4096, 1 << 17} {
			b := newFrame(n, n)
			p.lay(0, 0, nil, segs(seg(p.data(0), 2*page)))
			p.fill(p.data(0), bytes.Repeat([]byte{99}, 1530))
			is := n >= 14 && n <= 1514
			if p.in(b) != is {
				t.Errorf("P14.4: a frame of %d bytes: %v", n, !is)
			}
			p.offer(0, 0)
			p.notice(0)
			if !is {
				p.gives(0)
				p.offered[0]--
				p.offer(0)
				continue
			}
			p.gives(0, given{0, uint64(n + 12)})
			if got := p.bytes(p.data(0), 1530); !bytes.Equal(got[:n+12], framed(b)) || got[n+12] != 99 {
				t.Errorf("P14.3: a frame of %d bytes comes in as another", n)
			}
			p.same()
		}
		p.is(4, 1)
	}
}

// P14.3: a frame comes in whole, or, where a chain has not room enough, not at all: it is lost, and 0 bytes are written.
func TestFrameInRoom(t *testing.T) {
	for _, home := range lands {
		for _, n := range []int{14, 60, api.MaxFrame} {
			for _, room := range []int{0, 1, 11, 12, 13, n - 1, n, n + 1, n + 11, n + 12, n + 13, 4000} {
				for _, cuts := range [][]int{{}, {0}, {1}, {10}, {11}, {12}, {13}, {room / 2}, {room - 1}, {5, 7, 3, 0, 9}} {
					p := ready(t, api.DevNet, nil, home, 8)
					b := newFrame(n, room)
					write := split(p.data(0x100), room, cuts...)
					p.spread(write, bytes.Repeat([]byte{99}, room))
					p.lay(0, 0, segs(seg(p.data(0), 64)), write) // what is to read does not count
					p.offer(0, 0, 0)
					if !p.in(b) {
						t.Fatal("P14.4: In = false")
					}
					want := bytes.Repeat([]byte{99}, room)
					count := uint64(0)
					if room >= n+12 {
						copy(want, framed(b))
						count = uint64(n + 12)
					}
					p.gives(0, given{0, count})
					if !bytes.Equal(p.gather(write), want) {
						t.Fatalf("P14.3: a frame of %d bytes, %d to write, cut at %v", n, room, cuts)
					}
					p.is(4, 1)
					p.notice(0) // it is gone, whether it came in or was lost
					p.gives(0)
				}
			}
		}
	}
}

// P14.4: MaxIn frames wait at most, those that came first ahead; each takes a chain of its own.
func TestFrameInWaits(t *testing.T) {
	for _, n := range []int{0, 1, 2, api.MaxIn - 1, api.MaxIn, api.MaxIn + 1, api.MaxIn + 9} {
		p := ready(t, api.DevNet, nil, lands[0], 64)
		for i := range n {
			if ok := p.in(newFrame(14+i, i)); ok != (i < api.MaxIn) {
				t.Errorf("P14.4: frame %d: %v", i, ok)
			}
		}
		p.is(4, 0)
		p.lay(0, 0, nil, segs(seg(p.data(0), 200)))
		for i := range min(n, api.MaxIn) {
			p.offer(0, 0)
			p.notice(0)
			p.gives(0, given{0, uint64(26 + i)})
			if !bytes.Equal(p.bytes(p.data(0), 26+i), framed(newFrame(14+i, i))) {
				t.Fatalf("P14.6: frame %d of %d is another", i, n)
			}
		}
		p.offer(0, 0)
		p.notice(0)
		p.gives(0) // where nothing waits no chain is taken
		if !p.in(newFrame(20, 1)) {
			t.Error("P14.4: In = false")
		}
		p.gives(0, given{0, 32}) // the chain that was not taken
	}
}

// P14.3: a serving ends where nothing waits any more: chains beyond that stay, even those that are errors.
func TestFrameInEndsWhereNothingWaits(t *testing.T) {
	p := ready(t, api.DevNet, nil, lands[0], 8)
	p.lay(0, 0, nil, segs(seg(p.data(0), 200)))
	p.descriptor(0, 5, p.data(0), 1, 8, 0) // no chain
	p.offer(0, 0, 0, 5)
	p.in(newFrame(14, 1))
	p.in(newFrame(14, 2))
	p.gives(0, given{0, 26}, given{0, 26})
	p.notice(0)
	p.is(4, 1)
	p.poke(p.avail(0)+2, 2, 60) // nor is the index looked at
	p.notice(0)
	p.is(4, 1)
	p.in(newFrame(14, 3))
	p.is(4|64, 3)
}

// P14.4: In serves queue 0 alone, and only while status has bit 2; lost frames serve nothing.
func TestInServes(t *testing.T) {
	for _, kind := range []int{api.DevNet, api.DevConsole} {
		for status := uint64(1); status < 256; status += 3 {
			p := ready(t, kind, nil, lands[0], 4)
			p.set(statusReg, status)
			n := p.easy(0, 0)
			p.easy(1, 0)
			p.offer(0, 0)
			p.offer(1, 0)
			p.feed(1)
			if status&4 != 0 {
				p.gives(0, given{0, n})
				p.reads(intsReg, 1)
			} else {
				p.gives(0)
				p.reads(intsReg, 0)
			}
			p.gives(1)
			p.same()
		}
		p := ready(t, kind, nil, lands[0], 4)
		p.wait(api.MaxIn)
		p.easy(0, 0)
		p.offer(0, 0)
		if p.in(newFrame(20, 1)) || p.in(nil) || p.in(newFrame(1515, 1)) {
			t.Error("P14.4: more than MaxIn wait")
		}
		p.gives(0)
		p.is(4, 0)
	}
}

// P14.4: what comes in while the driver is not at work, or a queue is not ready, waits till it is served.
func TestInWaitsForTheDriver(t *testing.T) {
	for _, kind := range []int{api.DevNet, api.DevConsole} {
		p := newPair(t, kind, nil, lands[0])
		p.feed(3)
		p.begin(8)
		n := p.easy(0, 0)
		p.offer(0, 0, 0, 0, 0)
		p.gives(0) // that the driver is at work serves nothing
		p.is(4, 0)
		p.notice(0)
		p.gives(0, given{0, n}, given{0, n}, given{0, n})
		p.set(statusReg, 4)
		p.feed(1)
		p.gives(0, given{0, n})
	}
}

// P14.2: what waits is gone by a reset; what comes behind it waits as ever.
func TestInGoneByReset(t *testing.T) {
	for _, kind := range []int{api.DevNet, api.DevConsole} {
		for _, n := range []int{1, api.MaxIn} {
			p := ready(t, kind, nil, lands[0], 8)
			p.feed(n)
			p.begin2(8)
			w := p.easy(0, 0)
			p.offer(0, 0, 0)
			p.notice(0)
			p.gives(0)
			p.feed(1)
			p.gives(0, given{0, w})
			p.begin2(8)
			p.feed(api.MaxIn) // there is room for all again
			for i := range 5 {
				if p.in(newFrame(14+i, 1)) {
					t.Error("P14.4: more than MaxIn wait")
				}
			}
		}
	}
}

// R3: what comes in is neither turned nor kept.
func TestInKeepsNoList(t *testing.T) {
	for _, kind := range []int{api.DevNet, api.DevConsole} {
		p := ready(t, kind, nil, lands[0], 8)
		all := pattern(100, 1)
		b := all[10:30]
		p.d.In(p.l.m, b)
		if !bytes.Equal(all, pattern(100, 1)) {
			t.Error("R3: the list that came in is another")
		}
		clear(all)
		p.lay(0, 0, nil, segs(seg(p.data(0), 50)))
		p.offer(0, 0)
		p.d.Write(p.l.m, noticeReg, 4, 0)
		want := pattern(100, 1)[10:30]
		if kind == api.DevNet {
			want = framed(want)
		}
		if !bytes.Equal(p.bytes(p.data(0), len(want)), want) {
			t.Error("R3: the list that came in is kept")
		}
	}
}

// P14.6: what goes out comes in order, from one card to another.
func TestFramesInOrder(t *testing.T) {
	a, b := ready(t, api.DevNet, nil, lands[0], 64), ready(t, api.DevNet, nil, lands[2], 64)
	sizes := []int{14, 1514, 15, 600, 14, 14, 1000, 33}
	var heads []int
	for i, n := range sizes {
		at := a.data(0x800 * i)
		a.fill(at, pattern(12+n, i))
		a.lay(1, 2*i, segs(seg(at, 7), seg(at+7, 5+n)), nil)
		heads = append(heads, 2*i)
	}
	a.offer(1, heads...)
	a.notice(1)
	for i := range sizes {
		b.lay(0, i, nil, segs(seg(b.data(0x800*i), 1526)))
		b.offer(0, i)
	}
	list := a.take()
	if len(list) != len(sizes) {
		t.Fatalf("P14.3: %d frames", len(list))
	}
	for _, f := range list {
		if !b.in(f) {
			t.Fatal("P14.4: In = false")
		}
	}
	for i, n := range sizes {
		if got := b.bytes(b.data(0x800*i), 12+n); !slices.Equal(got, framed(pattern(12+n, i)[12:])) {
			t.Errorf("P14.6: frame %d is another", i)
		}
	}
	b.same()
}

// P14.1: only cards have frames, only consoles have sent, only disks have bytes.
func TestEachItsOwn(t *testing.T) {
	for _, kind := range kinds {
		var disk []byte
		if kind == api.DevBlk {
			disk = newDisk(1)
		}
		p := ready(t, kind, disk, lands[0], 4)
		p.easy(len(p.c.queues)-1, 0)
		p.offer(len(p.c.queues)-1, 0)
		p.notice(len(p.c.queues) - 1)
		if n := len(p.d.Out()); (n > 0) != (kind == api.DevConsole) {
			t.Errorf("P14.1: kind %d has sent %d bytes", kind, n)
		}
		if n := len(p.d.Disk()); (n > 0) != (kind == api.DevBlk) {
			t.Errorf("P14.1: kind %d has a disk of %d bytes", kind, n)
		}
		if n := len(p.take()); (n > 0) != (kind == api.DevNet) {
			t.Errorf("P14.1: kind %d has %d frames", kind, n)
		}
	}
	if d, _ := virtdev.New(api.DevNet, nil); len(d.Take()) != 0 {
		t.Error("P14.1: a new card has frames")
	}
}
