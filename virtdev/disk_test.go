package virtdev_test

import (
	"bytes"
	"slices"
	"testing"

	"citadel/api"
)

// What requests ask for, and what came of them.
const (
	reads, writes, flushes = 0, 1, 4
	done, failed, unknown  = 0, 1, 2
)

// Where the parts of a request lie.
const (
	headOff   = 0
	fromOff   = 0x100   // the data to the disk
	toOff     = 0x9000  // the data from it
	statusOff = 0x12000 // behind both
)

// request asks a disk: n bytes of data that go to it, and room for m that come from it. It fails if another status
// comes of it, or other bytes are turned than must be: the data with a good read, and the status.
func (p *pair) request(kind uint32, at uint64, n, m int, status byte) {
	p.t.Helper()
	from, to := pattern(n, int(at)+1), slices.Repeat([]byte{0xee}, m+1)
	p.fill(p.data(headOff), head(kind, at))
	p.fill(p.data(fromOff), from)
	p.fill(p.data(toOff), to)
	p.poke(p.data(statusOff), 1, 0xee)
	disk := p.d.Disk()
	write := segs(seg(p.data(toOff), m), seg(p.data(statusOff), 1))
	got := p.ask(0, segs(seg(p.data(headOff), 16), seg(p.data(fromOff), n)), write)
	want := uint64(1)
	if kind == reads && status == done {
		want += uint64(m)
		copy(to, disk[at*sector:][:m])
	}
	if kind == writes && status == done {
		copy(disk[at*sector:], from)
	}
	if s := byte(p.peek(p.data(statusOff), 1)); s != status || got != want {
		p.t.Fatalf("P14.3: kind %d at %d, %d bytes to the disk, %d from it: status %d, %d bytes; not %d, %d", kind, at, n, m, s, got, status, want)
	}
	if !bytes.Equal(p.bytes(p.data(toOff), m+1), to) {
		p.t.Fatalf("P14.3: kind %d at %d: the data is another", kind, at)
	}
	if !bytes.Equal(p.d.Disk(), disk) {
		p.t.Fatalf("P14.3: kind %d at %d: the disk is another", kind, at)
	}
	p.same()
}

// sectorsOf are sectors round all ends of a disk.
func sectorsOf(n int) []uint64 {
	list := []uint64{0, 1, 2, uint64(n) / 2, uint64(n) + 1, uint64(n) + 2, 1 << 9, 1 << 23, 1 << 31, 1 << 32, 1<<32 + 1, 1 << 54, 1 << 55, 1<<55 + 1, 1<<55 - 1, 1 << 56, 1 << 62, 1 << 63, 1<<63 + 1, ones, ones - 1}
	for _, back := range []int{0, 1, 2} {
		if n >= back {
			list = append(list, uint64(n-back))
		}
	}
	return list
}

// P14.3: sectors are read and written where all of them lie on the disk, of whole sectors, none right behind the last
// one included.
func TestDiskSectors(t *testing.T) {
	for _, home := range lands[1:] {
		for _, n := range []int{0, 1, 2, 3, api.MaxDisk} {
			p := ready(t, api.DevBlk, newDisk(n), home, 4)
			for _, at := range sectorsOf(n) {
				for _, size := range []int{0, 1, 256, 511, 512, 513, 768, 1023, 1024, 1025, n * sector, n*sector + sector, n*sector - sector} {
					if size < 0 || size > 4*page && at > 1 && at < ones && p.l.name != "RAM" {
						continue // a Space takes its time
					}
					status := byte(failed)
					if at <= uint64(n) && size%sector == 0 && size/sector <= n-int(at) {
						status = done
					}
					p.request(reads, at, 0, size, status)
					p.request(writes, at, size, 0, status)
				}
			}
		}
	}
}

// P14.3: what is not of a request does not count: room for data with a write, data with a read, both with a flush and
// with what is unknown.
func TestDiskKinds(t *testing.T) {
	p := ready(t, api.DevBlk, newDisk(3), lands[0], 4)
	for _, x := range []struct {
		kind   uint32
		status byte
	}{
		{flushes, done}, {2, unknown}, {3, unknown}, {5, unknown}, {6, unknown}, {7, unknown}, {8, unknown}, {255, unknown}, {256, unknown}, {257, unknown}, {260, unknown},
		{1 << 16, unknown}, {1<<16 + 1, unknown}, {1 << 24, unknown}, {1 << 31, unknown}, {1<<31 + 4, unknown}, {1<<32 - 1, unknown},
	} {
		for _, at := range []uint64{0, 1, 3, 4, 1 << 63, ones} {
			for _, n := range []int{0, 1, 512, 513, 4096} {
				p.request(x.kind, at, n, 0, x.status)
				p.request(x.kind, at, 0, n, x.status)
				p.request(x.kind, at, n, n, x.status)
			}
		}
	}
	for _, n := range []int{0, 1, 511, 512, 513, 4096} {
		p.request(reads, 1, n, 1024, done)
		p.request(reads, 1, n, 1000, failed)
		p.request(writes, 1, 1024, n, done)
		p.request(writes, 1, 1000, n, failed)
		p.request(writes, 2, 1024, n, failed)
		p.request(writes, 3, 0, n, done)
		p.request(writes, 4, 0, n, failed)
		p.request(reads, 3, n, 0, done)
		p.request(reads, 4, n, 0, failed)
	}
}

// P14.3: the four bytes between kind and sector may be anything.
func TestDiskBetween(t *testing.T) {
	p := ready(t, api.DevBlk, newDisk(2), lands[0], 4)
	for _, v := range []uint64{0, 1, 4, 1 << 31, 1<<32 - 1} {
		p.fill(p.data(0), head(reads, 1))
		p.poke(p.data(4), 4, v)
		p.poke(p.data(0x800), 1, 99)
		if n := p.ask(0, segs(seg(p.data(0), 16)), segs(seg(p.data(0x100), sector), seg(p.data(0x800), 1))); n != sector+1 {
			t.Errorf("P14.3: %d bytes were written", n)
		}
		if p.peek(p.data(0x800), 1) != done || !bytes.Equal(p.bytes(p.data(0x100), sector), newDisk(2)[sector:]) {
			t.Errorf("P14.3: with %#x between", v)
		}
		p.same()
	}
}

// P14.3: with fewer than 16 bytes to read, or none to write, nothing is done.
func TestDiskTooShort(t *testing.T) {
	for _, home := range lands {
		for _, kind := range []uint32{reads, writes, flushes, 9} {
			p := ready(t, api.DevBlk, newDisk(2), home, 8)
			for n := range 40 {
				for m := range 3 {
					for _, cut := range []int{0, 1, n / 2, n} {
						if n == 0 && m == 0 {
							continue
						}
						p.fill(p.data(0), head(kind, 1))
						p.fill(p.data(0x400), []byte{9, 9, 9})
						read := segs(seg(p.data(0), cut), seg(p.data(cut), n-cut), seg(p.data(0), 0))
						write := segs(seg(p.data(0x400), m))
						if n == 0 {
							read = nil
						}
						if m == 0 {
							write = nil
						}
						got := p.ask(0, read, write)
						if n < 16 || m == 0 {
							if got != 0 || !bytes.Equal(p.bytes(p.data(0x400), 3), []byte{9, 9, 9}) {
								t.Fatalf("P14.3: kind %d, %d bytes to read, %d to write: %d were written", kind, n, m, got)
							}
						} else if s := p.bytes(p.data(0x400), 3); got != 1 || s[m-1] == 9 || s[m] != 9 || m == 2 && s[0] != 9 {
							t.Fatalf("P14.3: kind %d, %d bytes to read, %d to write: %d were written, %v", kind, n, m, got, s)
						}
						p.same()
					}
				}
			}
			if !bytes.Equal(p.d.Disk(), newDisk(2)) {
				t.Error("P14.3: the disk is another")
			}
		}
	}
	p := ready(t, api.DevBlk, newDisk(1), lands[0], 8)
	for _, read := range [][]int{{0}, {0, 0, 0}, {15}, {7, 8}, {16}, {16, 0}} { // pieces to write of 0 bytes are none
		var list []api.Seg
		for _, n := range read {
			list = append(list, seg(p.data(0), n))
		}
		if n := p.ask(0, list, segs(seg(p.data(99), 0), seg(p.data(99), 0))); n != 0 {
			t.Errorf("P14.3: %d were written", n)
		}
	}
	p.same()
}

// P14.3: head, data and status may be split over pieces anywhere.
func TestDiskSplit(t *testing.T) {
	disk := newDisk(4)
	for _, home := range lands {
		p := ready(t, api.DevBlk, disk, home, 64)
		for _, cuts := range [][]int{
			{}, {0}, {1}, {3}, {4}, {5}, {8}, {15}, {16}, {17}, {511}, {512}, {513}, {527}, {528}, {529}, {1023}, {1024}, {1025}, {1039},
			{1, 1, 1, 1, 1, 1, 1, 1, 1, 1, 1, 1, 1, 1, 1, 1, 1, 1}, {0, 0, 5, 0, 0, 11, 0, 0, 1}, {8, 8, 512}, {7, 9, 511, 1, 511}, {4, 4, 8, 0, 1000, 23},
		} {
			read := split(p.data(0), 16+2*sector, cuts...)
			p.spread(read, append(head(writes, 1), pattern(2*sector, len(cuts))...))
			status := p.data(0x3000)
			p.poke(status, 1, 99)
			if n := p.ask(0, read, segs(seg(status, 1))); n != 1 || p.peek(status, 1) != done {
				t.Fatalf("P14.3: a write cut at %v: %d were written", cuts, n)
			}
			want := slices.Concat(disk[:sector], pattern(2*sector, len(cuts)), disk[3*sector:])
			if !bytes.Equal(p.d.Disk(), want) {
				t.Fatalf("P14.3: a write cut at %v", cuts)
			}
			write := split(p.data(0x4000), 4*sector+1, cuts...)
			p.fill(p.data(0), head(reads, 0))
			p.spread(write, bytes.Repeat([]byte{99}, 4*sector+1))
			if n := p.ask(0, segs(seg(p.data(0), 16)), write); n != 4*sector+1 {
				t.Fatalf("P14.3: a read cut at %v: %d were written", cuts, n)
			}
			if !bytes.Equal(p.gather(write), append(want, done)) {
				t.Fatalf("P14.3: a read cut at %v", cuts)
			}
			p.same()
		}
	}
}

// P14.3: the last byte to write is the status, also where pieces of 0 bytes stand behind it, and where it is the same
// byte as data: it is written last.
func TestDiskStatusLast(t *testing.T) {
	p := ready(t, api.DevBlk, newDisk(2), lands[0], 8)
	p.fill(p.data(0), head(reads, 0))
	n := p.ask(0, segs(seg(p.data(0), 16)), segs(seg(p.data(0x100), sector+1), seg(p.data(0x900), 0), seg(p.data(0x901), 0)))
	if n != sector+1 || !bytes.Equal(p.bytes(p.data(0x100), sector+1), append(newDisk(2)[:sector], done)) {
		t.Error("P14.3: the status is not the last byte")
	}
	n = p.ask(0, segs(seg(p.data(0), 16)), segs(seg(p.data(0x100), sector), seg(p.data(0x100), 1)))
	if n != sector+1 || p.peek(p.data(0x100), 1) != done || p.peek(p.data(0x101), 1) != uint64(newDisk(2)[1]) {
		t.Error("P14.3: the status is not written last")
	}
	// The head is read ahead of all that is written over it.
	n = p.ask(0, segs(seg(p.data(0), 16)), segs(seg(p.data(0), sector), seg(p.data(0x900), 1)))
	if n != sector+1 || !bytes.Equal(p.bytes(p.data(0), sector), newDisk(2)[:sector]) {
		t.Error("P14.3: a head that is written over")
	}
	// One piece twice: what comes later stays.
	p.fill(p.data(0), head(reads, 0))
	n = p.ask(0, segs(seg(p.data(0), 16)), segs(seg(p.data(0x100), sector), seg(p.data(0x100), sector), seg(p.data(0x900), 1)))
	if n != 2*sector+1 || !bytes.Equal(p.bytes(p.data(0x100), sector), newDisk(2)[sector:]) {
		t.Error("P14.3: pieces that lie upon each other")
	}
	p.same()
}

// P14.3: what was written is read again; what failed left the disk as it was; nothing comes in to a disk.
func TestDiskKeeps(t *testing.T) {
	p := ready(t, api.DevBlk, newDisk(api.MaxDisk), lands[2], 4)
	for i := range 3 * api.MaxDisk {
		at := uint64(i * 37 % api.MaxDisk)
		p.request(writes, at, (1+i%3)*sector, 0, map[bool]byte{true: done, false: failed}[int(at)+1+i%3 <= api.MaxDisk])
		p.request(reads, at, 0, sector, done)
		if p.in([]byte{1}) || p.in(newFrame(64, 1)) || p.in(nil) || p.in(make([]byte, sector)) {
			t.Fatal("P14.4: something comes in to a disk")
		}
		if len(p.d.Disk()) != api.MaxDisk*sector || len(p.d.Out())+len(p.take()) != 0 {
			t.Fatal("P14.6: a disk does not keep its length, or sends")
		}
	}
}

// P14.3: a disk has no second queue.
func TestDiskOneQueue(t *testing.T) {
	p := ready(t, api.DevBlk, newDisk(1), lands[0], 4)
	p.setup(1, 4, p.desc(1), p.avail(1), p.used(1))
	p.reads(readyReg, 0)
	p.fill(p.data(0), head(flushes, 0))
	p.lay(1, 0, segs(seg(p.data(0), 16)), segs(seg(p.data(99), 1)))
	p.offer(1, 0)
	p.notice(1)
	p.gives(1)
	p.is(4, 0)
}
