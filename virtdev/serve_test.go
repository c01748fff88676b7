package virtdev_test

import (
	"bytes"
	"slices"
	"testing"

	"citadel/api"
)

// each asks the same of a ready device of each kind over each memory, for each queue.
func each(t *testing.T, size int, ask func(p *pair, q int)) {
	t.Helper()
	for _, home := range lands {
		for _, kind := range kinds {
			for q := range len(newChapter(kind, nil).queues) {
				var disk []byte
				if kind == api.DevBlk {
					disk = newDisk(4)
				}
				ask(ready(t, kind, disk, home, size), q)
			}
		}
	}
}

// feed has so much wait to come in that each of n chains takes some.
func (p *pair) feed(n int) {
	p.t.Helper()
	for i := range n {
		switch p.c.kind {
		case api.DevNet:
			p.in(newFrame(14, i))
		case api.DevConsole:
			p.in([]byte{byte(i)})
		}
	}
}

// easy lays a chain of two pieces from a descriptor on that a queue of any kind does something with, and tells how many
// bytes of it are written: of a card's, of a console's of one byte.
func (p *pair) easy(q, at int) uint64 {
	p.t.Helper()
	from, to := p.data(0x100*at), p.data(0x100*at+0x80)
	switch {
	case p.c.kind == api.DevBlk:
		p.fill(from, head(4, 0))
		p.lay(q, at, segs(seg(from, 16)), segs(seg(to, 1)))
		return 1
	case q == 1:
		p.fill(from, pattern(30, at))
		p.lay(q, at, segs(seg(from, 26), seg(from+26, 1)), nil)
		return 0
	case p.c.kind == api.DevNet:
		p.lay(q, at, nil, segs(seg(to, 20), seg(to+20, 20)))
		return 26
	}
	p.lay(q, at, segs(seg(from, 5)), segs(seg(to, 1)))
	return 1
}

// P14.3: a queue that is not ready is not served, nor one that is dead; nothing is turned, and nothing is told.
func TestServeNotReady(t *testing.T) {
	each(t, 4, func(p *pair, q int) {
		p.feed(3)
		p.easy(q, 0)
		p.set(selQueue, uint64(q))
		p.set(readyReg, 0)
		p.offer(q, 0)
		p.notice(q)
		p.feed(1)
		p.gives(q)
		p.is(4, 0)
		p.set(readyReg, 1)
		p.kill(q)
		p.is(4|64, 2)
		p.set(ackReg, 2)
		p.poke(p.avail(q)+2, 2, 1)
		was := p.l.all(p.t)
		for range 3 {
			p.notice(q)
			p.feed(1)
		}
		p.is(4|64, 0)
		if !bytes.Equal(was, p.l.all(p.t)) {
			t.Error("P14.3: a dead queue turns memory")
		}
		p.set(readyReg, 0) // as new, it is served again
		p.set(readyReg, 1)
		p.poke(p.used(q)+2, 2, 0)
		p.notice(q)
		if len(p.gave(q)) != 1 {
			t.Errorf("P14.3: a queue that was reset is not served (kind %d, queue %d)", p.c.kind, q)
		}
		p.is(4|64, 1)
	})
}

// P14.3: chains are done in their order, and each is given back with how many bytes were written.
func TestServeInOrder(t *testing.T) {
	each(t, 8, func(p *pair, q int) {
		heads := []int{4, 0, 6, 2, 0, 4, 4}
		n := map[int]uint64{}
		for _, h := range heads {
			n[h] = p.easy(q, h)
		}
		var want []given
		for _, h := range heads {
			want = append(want, given{h, n[h]})
		}
		p.offer(q, heads...)
		p.feed(q + len(heads) - 1) // each is done as it comes in, and one more for a notice
		p.notice(q)
		p.feed(1)
		p.notice(q)
		p.gives(q, want...)
		p.is(4, 1)
	})
}

// P14.3: as many as MaxQueue chains are done at once, where they are there from the beginning; and no more chains than
// there are.
func TestServeMany(t *testing.T) {
	for _, n := range []int{1, 2, 31, api.MaxQueue - 1, api.MaxQueue} {
		for _, kind := range kinds {
			for q := range len(newChapter(kind, nil).queues) {
				p := newPair(t, kind, nil, lands[0])
				p.feed(api.MaxIn)
				p.begin(api.MaxQueue)
				if q == 0 && kind != api.DevBlk { // what waits went with no reset
					p.notice(0)
					p.gives(0)
				}
				w := p.easy(q, 0)
				p.offer(q, make([]int, n)...)
				p.notice(q)
				p.gives(q, slices.Repeat([]given{{0, w}}, n)...)
				p.notice(q)
				p.gives(q)
				p.is(4, 1)
			}
		}
	}
}

// P14.3: a chain may let the device write the available ring's index: what stands there then counts for the next chain.
func TestServeOnAndOn(t *testing.T) {
	p := ready(t, api.DevBlk, nil, lands[0], 4)
	p.fill(p.data(0), head(9, 0)) // its status is 2, and so is the index behind it
	p.lay(0, 0, segs(seg(p.data(0), 16)), segs(seg(p.avail(0)+2, 1)))
	p.offer(0, 0)
	p.notice(0)
	p.gives(0, given{0, 1}, given{0, 1})
	p.is(4, 1)
	// The disk's own byte is an index too far ahead: of five chains that were offered one is given back.
	p = ready(t, api.DevBlk, bytes.Repeat([]byte{200}, sector), lands[0], 64)
	p.fill(p.data(0), head(0, 0))
	p.lay(0, 0, segs(seg(p.data(0), 16)), segs(seg(p.avail(0)+2, 1), seg(p.data(0x100), 511), seg(p.data(0x400), 1)))
	p.offer(0, make([]int, 5)...)
	p.notice(0)
	p.gives(0, given{0, 513})
	p.is(4|64, 3)
	// Each byte that comes in is an index one ahead of the chains that were taken.
	p = ready(t, api.DevConsole, nil, lands[0], 64)
	for i := range api.MaxIn {
		p.in([]byte{byte(i + 2)})
	}
	p.lay(0, 0, nil, segs(seg(p.avail(0)+2, 1)))
	p.offer(0, 0)
	p.notice(0)
	p.gives(0, slices.Repeat([]given{{0, 1}}, api.MaxIn)...)
	p.notice(0)
	p.gives(0) // nothing waits
	p.is(4, 1)
}

// P14.3: a console's chain without room takes nothing of what waits: MaxQueue chains each time, and it still waits.
func TestServeNoRoom(t *testing.T) {
	p := ready(t, api.DevConsole, nil, lands[0], 64)
	p.lay(0, 0, segs(seg(p.data(0), 5)), nil)
	p.in([]byte("x"))
	for range 3 {
		p.offer(0, make([]int, 64)...)
		p.notice(0)
		p.gives(0, slices.Repeat([]given{{0, 0}}, 64)...)
	}
	p.lay(0, 0, nil, segs(seg(p.data(0), 5)))
	p.offer(0, 0)
	p.notice(0)
	p.gives(0, given{0, 1})
	if p.peek(p.data(0), 1) != 'x' {
		t.Error("P14.3: the byte that waits is gone")
	}
}

// counter is a memory whose available index is always one ahead of what was taken, so that chains come without end.
type counter struct {
	*land
	index uint64
	taken uint16
	nexts int
}

func (c *counter) Has(addr uint64, n int) bool { return c.m.Has(addr, n) }

func (c *counter) Read(addr uint64, size int) (uint64, bool) {
	if addr == c.index {
		c.nexts++
		c.taken++
		return uint64(c.taken), true
	}
	return c.m.Read(addr, size)
}

func (c *counter) Write(addr uint64, size int, v uint64) bool { return c.m.Write(addr, size, v) }

// P14.3: of chains without end MaxQueue are done at each notice, and the next one is not even asked for.
func TestServeWithoutEnd(t *testing.T) {
	for _, kind := range kinds {
		for _, size := range []int{2, 16, api.MaxQueue} {
			for q := range len(newChapter(kind, nil).queues) {
				p := ready(t, kind, nil, lands[0], size)
				if kind == api.DevConsole && q == 0 {
					p.lay(q, 0, segs(seg(p.data(0), 5)), nil)
					p.in([]byte("x"))
				} else {
					p.easy(q, 0)
				}
				m := &counter{land: p.l, index: p.avail(q) + 2}
				for i := range 3 {
					p.d.Write(m, statusReg, 4, 3)
					for kind == api.DevNet && p.d.In(m, newFrame(14, i)) {
					}
					p.d.Write(m, statusReg, 4, 4)
					m.nexts = 0
					if !p.d.Write(m, noticeReg, 4, uint64(q)) {
						t.Fatal("P14.2: Write = false")
					}
					if m.nexts != api.MaxQueue {
						t.Errorf("P14.3: kind %d, queue %d: %d chains were asked for", kind, q, m.nexts)
					}
					if got := p.peek(p.used(q)+2, 2); got != uint64((i+1)*api.MaxQueue) {
						t.Errorf("P14.3: kind %d, queue %d: %d chains were given back", kind, q, got)
					}
				}
			}
		}
	}
}

// P14.3: a quiet queue does not interrupt; whether it is, is asked when the chains are done.
func TestServeQuiet(t *testing.T) {
	each(t, 8, func(p *pair, q int) {
		n := p.easy(q, 0)
		for i, x := range []struct{ flags, ints uint64 }{{1, 0}, {3, 0}, {0xffff, 0}, {2, 1}, {0xfffe, 1}, {0, 1}, {1, 0}} {
			p.poke(p.avail(q), 2, x.flags)
			p.feed(1)
			p.is(4, 0)
			p.offer(q, 0)
			p.notice(q)
			p.gives(q, given{0, n})
			if v, _ := p.read(intsReg, 4); v != x.ints || p.d.Irq() != (x.ints == 1) {
				t.Fatalf("P14.3: %d: flags %#x: the interrupts are %d", i, x.flags, v)
			}
			p.poke(p.avail(q), 2, 1) // what interrupts already goes on
			p.notice(q)
			p.is(4, x.ints)
			p.set(ackReg, 1)
		}
	})
	// A chain's own bytes make the queue quiet, or not: behind all chains that counts.
	for _, b := range []byte{0, 1} {
		p := ready(t, api.DevConsole, nil, lands[0], 8)
		p.in([]byte{b, 7})
		p.poke(p.avail(0), 2, uint64(1-b))
		p.lay(0, 0, nil, segs(seg(p.avail(0), 1)))
		p.lay(0, 1, nil, segs(seg(p.data(0), 1)))
		p.offer(0, 0, 1)
		p.notice(0)
		p.gives(0, given{0, 1}, given{1, 1})
		p.is(4, uint64(1-b))
	}
}

// P14.3: flags that lie out of the memory are not quiet.
func TestServeFlagsOutOfBounds(t *testing.T) {
	p := newPair(t, api.DevConsole, nil, lands[1])
	p.begin(4)
	p.set(selQueue, 1)
	p.set(readyReg, 0)
	p.poke(p.l.home, 8, 0x0001) // what was the flags' place is the index's now: 1, and the head 0
	p.setup(1, 4, p.desc(1), p.l.home-2, p.used(1))
	p.reads(readyReg, 1)
	p.lay(1, 0, segs(seg(p.data(0), 3)), nil)
	p.notice(1)
	p.gives(1, given{0, 0})
	p.is(4, 1)
}

// P14.3: where nothing is given back nothing interrupts.
func TestServeNothing(t *testing.T) {
	each(t, 4, func(p *pair, q int) {
		for range 3 {
			p.notice(q)
		}
		p.is(4, 0)
		p.easy(q, 0)
		was := p.l.all(p.t)
		p.feed(2)
		p.notice(q)
		p.is(4, 0)
		if !bytes.Equal(was, p.l.all(p.t)) {
			t.Error("P14.3: memory was turned without a chain")
		}
	})
}

// P14.3: a chain that is an error ends the serving: those ahead of it are given back, those behind it are not; the
// device is broken, and both interrupt.
func TestServeError(t *testing.T) {
	spoil := map[string]func(p *pair, q int){
		"a loop":           func(p *pair, q int) { p.descriptor(q, 6, p.data(0), 1, more, 6) },
		"a flag":           func(p *pair, q int) { p.descriptor(q, 6, p.data(0), 1, 4, 0) },
		"out of bounds":    func(p *pair, q int) { p.descriptor(q, 6, p.l.home-1, 1, 0, 0) },
		"a next":           func(p *pair, q int) { p.descriptor(q, 6, p.data(0), 1, more, 8) },
		"read behind what": func(p *pair, q int) { p.descriptor(q, 6, p.data(0), 1, more|written, 7) },
	}
	for name, wrong := range spoil {
		each(t, 8, func(p *pair, q int) {
			for ahead := range 4 {
				p.begin2(8)
				n := p.easy(q, 0)
				p.easy(q, 2)
				wrong(p, q)
				p.descriptor(q, 7, p.data(0), 1, 0, 0)
				p.offer(q, append(slices.Repeat([]int{0, 2}, ahead)[:ahead], 6, 0, 2)...)
				p.wait(6)
				p.notice(q)
				var want []given
				for i := range ahead {
					want = append(want, given{i % 2 * 2, n})
				}
				p.gives(q, want...)
				ints := uint64(2)
				if ahead > 0 {
					ints = 3
				}
				if v, _ := p.read(intsReg, 4); v != ints {
					t.Fatalf("P14.3: %s behind %d chains: the interrupts are %d", name, ahead, v)
				}
				p.is(4|64, ints)
				p.notice(q)
				p.gives(q)
			}
		})
	}
}

// begin2 resets both, and begins again with rings of 0.
func (p *pair) begin2(size int) {
	p.t.Helper()
	p.set(statusReg, 0)
	for q := range p.c.queues {
		p.fill(p.used(q), make([]byte, 4+8*64))
		p.fill(p.avail(q), make([]byte, 4+2*64))
	}
	p.begin(size)
}

// wait has n things wait to come in that are not served: the driver is not at work while they come.
func (p *pair) wait(n int) {
	p.t.Helper()
	p.set(statusReg, 3)
	p.feed(n)
	p.set(statusReg, 4)
}

// P14.3: as an error, so a quiet queue's: only what tells that it is dead interrupts.
func TestServeErrorQuiet(t *testing.T) {
	each(t, 8, func(p *pair, q int) {
		n := p.easy(q, 0)
		p.descriptor(q, 6, p.data(0), 1, 8, 0)
		p.poke(p.avail(q), 2, 1)
		p.offer(q, 0, 6)
		p.wait(4)
		p.notice(q)
		p.gives(q, given{0, n})
		p.is(4|64, 2)
	})
}

// P14.3: a used ring that lies out of the memory, or may not be written: the chain is done, and not given back; the
// queue is dead.
func TestServeUsedOutOfBounds(t *testing.T) {
	each(t, 8, func(p *pair, q int) {
		end := p.l.home + homePages*page
		for i, used := range []uint64{end, end - 4, end - 8, p.l.home - 4, end - 12 - 8*3} {
			if used > 1<<60 {
				continue // no queue may lie there
			}
			p.begin2(8)
			p.easy(q, 0)
			p.set(selQueue, uint64(q))
			p.set(readyReg, 0)
			p.setup(q, 8, p.desc(q), p.avail(q), used)
			p.reads(readyReg, 1)
			p.offer(q, 0, 0, 0, 0, 0)
			p.wait(5)
			out, sent := len(p.d.Out()), len(p.take())
			p.notice(q)
			ints := uint64(2)
			if i == 4 {
				ints = 3 // four fit
			}
			p.is(4|64, ints)
			done := 1
			if i == 4 {
				done = 5
			}
			if p.c.kind == api.DevConsole && q == 1 && len(p.d.Out()) != out+27*done {
				t.Errorf("P14.3: %d: %d bytes were sent", i, len(p.d.Out())-out)
			}
			if n := len(p.take()); p.c.kind == api.DevNet && q == 1 && n != done {
				t.Errorf("P14.3: %d: %d frames were sent, %d ahead", i, n, sent)
			}
		}
	})
}

// P14.3: a byte that the memory does not let be written is left out, all others are written, and it counts as written.
func TestServeRefusedBytes(t *testing.T) {
	shut := func(p *pair) uint64 { return p.l.home + homePages*page } // a page that is not written, between two that are
	isSame := func(p *pair, at uint64, want []byte, what string) {
		t.Helper()
		for i, v := range want {
			a := at + uint64(i)
			got := byte(p.peek(a, 1))
			if open := p.l.writes(a); open && got != v || !open && got != 0 {
				t.Fatalf("P14.3: %s: byte %d is %d, not %d", what, i, got, v)
			}
		}
	}
	disk := newDisk(api.MaxDisk)
	p := ready(t, api.DevBlk, disk, newSpace, 8)
	p.fill(p.data(0), head(0, 3))
	to := shut(p) - 1000
	if n := p.ask(0, segs(seg(p.data(0), 16)), segs(seg(to, 12*sector+1))); n != 12*sector+1 {
		t.Errorf("P14.3: %d bytes were written", n)
	}
	isSame(p, to, append(bytes.Clone(disk[3*sector:15*sector]), 0), "a disk")
	// The status alone is refused, then all but the status.
	if n := p.ask(0, segs(seg(p.data(0), 16)), segs(seg(p.data(0x1000), sector), seg(shut(p), 1))); n != sector+1 {
		t.Errorf("P14.3: %d bytes were written", n)
	}
	isSame(p, p.data(0x1000), disk[3*sector:4*sector], "a disk")
	p.poke(p.data(0x1000), 1, 99)
	if n := p.ask(0, segs(seg(p.data(0), 16)), segs(seg(shut(p), sector), seg(p.data(0x1000), 1))); n != sector+1 {
		t.Errorf("P14.3: %d bytes were written", n)
	}
	if p.peek(p.data(0x1000), 1) != 0 {
		t.Error("P14.3: no status")
	}
	p.is(4, 1)

	p = ready(t, api.DevNet, nil, newSpace, 8)
	p.in(newFrame(1514, 4))
	for _, to := range []uint64{shut(p) - 700, shut(p) + page - 5, shut(p) - 1} {
		if to != shut(p)-700 {
			p.in(newFrame(1514, 4))
		}
		if n := p.ask(0, nil, segs(seg(to, 1526))); n != 1526 {
			t.Errorf("P14.3: %d bytes were written", n)
		}
		isSame(p, to, append([]byte{10: 1, 11: 0}, newFrame(1514, 4)...), "a card")
	}
	p = ready(t, api.DevConsole, nil, newSpace, 8)
	p.in(pattern(64, 5))
	if n := p.ask(0, nil, segs(seg(shut(p)-20, 25), seg(shut(p)+page-7, 100))); n != 64 {
		t.Errorf("P14.3: %d bytes were written", n)
	}
	isSame(p, shut(p)-20, pattern(64, 5)[:25], "a console")
	isSame(p, shut(p)+page-7, pattern(64, 5)[25:], "a console")
	p.is(4, 1)
}

// P14.3: what may not be written may be read, from a page without any right but PteX too.
func TestServeReadsShutPages(t *testing.T) {
	p := ready(t, api.DevConsole, nil, newSpace, 8)
	at := p.l.home + homePages*page
	for _, l := range []*land{p.l, p.r} {
		l.host.Fill(l.host.Base()+30*page, pattern(page, 1))
		l.host.Fill(l.host.Base()+32*page, pattern(page, 2))
	}
	if n := p.ask(1, segs(seg(at, 50), seg(at+2*page, 50)), nil); n != 0 {
		t.Errorf("P14.3: %d bytes were written", n)
	}
	if !bytes.Equal(p.d.Out(), append(pattern(50, 1), pattern(50, 2)...)) {
		t.Error("P14.3: what was read is another")
	}
	p.same()
}

// P14.3: chains are looked for behind each that is done: what one lets the device write leads the next.
func TestServeChainByChain(t *testing.T) {
	p := ready(t, api.DevConsole, nil, lands[0], 8)
	// The first chain's byte is the length of the second's only piece.
	p.lay(0, 0, nil, segs(seg(p.desc(0)+16+8, 1)))
	p.lay(0, 1, nil, segs(seg(p.data(0), 9)))
	p.offer(0, 0, 1)
	p.in([]byte{3, 'a', 'b', 'c', 'd'})
	p.gives(0, given{0, 1}, given{1, 3})
	if got := string(p.bytes(p.data(0), 4)); got != "abc\x00" {
		t.Errorf("P14.3: %q", got)
	}
	p.same()
}

// P14.3: pieces may lie at both ends of the memory: its first byte and its last are read and written as any other.
func TestServeAtTheEnds(t *testing.T) {
	for _, home := range lands[:2] {
		p := ready(t, api.DevConsole, nil, home, 8)
		last := p.l.home + homePages*page - 1
		p.fill(last-2, []byte("xyz"))
		p.ask(1, segs(seg(last-2, 3), seg(last, 1), seg(last-1, 1)), nil)
		if got := string(p.d.Out()); got != "xyzzy" {
			t.Errorf("P14.3: %q was sent", got)
		}
		p.in([]byte("abcd"))
		p.lay(0, 0, nil, segs(seg(last, 1), seg(last-1, 1), seg(last-4, 2)))
		p.offer(0, 0)
		p.notice(0)
		p.gives(0, given{0, 4})
		if got := string(p.bytes(last-4, 5)); got != "cdxba" {
			t.Errorf("P14.3: %q came in", got)
		}
		p.same()

		p = ready(t, api.DevConsole, nil, home, 8) // its first queue's descriptors are not asked for
		p.fill(p.l.home, []byte("first"))
		p.ask(1, segs(seg(p.l.home, 5)), nil)
		if got := string(p.d.Out()); got != "first" {
			t.Errorf("P14.3: %q was sent", got)
		}
		p.same()

		p = ready(t, api.DevBlk, newDisk(1), home, 8)
		p.fill(last-sector-15, append(head(writes, 0), pattern(sector, 9)...))
		if n := p.ask(0, segs(seg(last-sector-15, 16+sector)), segs(seg(last, 1))); n != 1 || p.peek(last, 1) != done || !bytes.Equal(p.d.Disk(), pattern(sector, 9)) {
			t.Errorf("P14.3: a request at the end: %d were written", n)
		}
		p.fill(p.data(0), head(reads, 0))
		if n := p.ask(0, segs(seg(p.data(0), 16)), segs(seg(last-sector, sector+1))); n != sector+1 || !bytes.Equal(p.bytes(last-sector, sector+1), append(pattern(sector, 9), done)) {
			t.Errorf("P14.3: an answer at the end: %d were written", n)
		}
		p.same()
	}
}
