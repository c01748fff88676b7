package virtdev_test

import (
	"bytes"
	"math/rand"
	"testing"

	"citadel/api"
	"citadel/virtdev"
	"citadel/virtq"
)

// life is a pair that a guest by chance drives.
type life struct {
	*pair
	r *rand.Rand
}

// piece is a piece of so many bytes somewhere in its data, or, seldom, anywhere.
func (l *life) piece(n int) api.Seg {
	last := (homePages - dataAt/page) * page
	if l.r.Intn(60) == 0 {
		p := some(l.r, l.l.parts...)
		return seg(p.from+uint64(l.r.Intn(page)), min(n, page))
	}
	if l.r.Intn(8) == 0 && l.l.name == "Space" {
		last += 3 * page // pages that are not written, too
	}
	return seg(l.data(l.r.Intn(max(1, last-n))), n)
}

// pieces are so many bytes, cut anywhere.
func (l *life) pieces(n, most int) []api.Seg {
	var list []api.Seg
	for range l.r.Intn(most) {
		cut := some(l.r, 0, 1, 12, 16, 512, n/2, l.r.Intn(n+1))
		cut = min(cut, n)
		list, n = append(list, l.piece(cut)), n-cut
	}
	if n > 0 || l.r.Intn(3) == 0 {
		list = append(list, l.piece(n))
	}
	return list
}

// lays lays a chain for a queue, and offers it.
func (l *life) lays(q int) {
	l.t.Helper()
	most := max(1, l.size/4)
	read, write := l.r.Intn(60), l.r.Intn(60)
	var first []byte
	switch {
	case l.c.kind == api.DevBlk:
		sectors := len(l.c.disk) / sector
		data := some(l.r, 0, 1, 2, 3, l.r.Intn(sectors+2)) * sector
		if l.r.Intn(6) == 0 {
			data += l.r.Intn(sector)
		}
		first = head(some(l.r, uint32(0), 0, 0, 1, 1, 1, 4, 2, 8, l.r.Uint32()), some(l.r, 0, uint64(l.r.Intn(sectors+1)), uint64(l.r.Intn(sectors+1)), uint64(sectors), uint64(sectors+1), l.r.Uint64()))
		read, write = 16, 1+data
		if first[0] == 1 {
			read, write = 16+data, 1+l.r.Intn(3)
		}
		if l.r.Intn(20) == 0 {
			read = l.r.Intn(20)
		}
		if l.r.Intn(20) == 0 {
			write = l.r.Intn(3)
		}
	case l.c.kind == api.DevNet && q == 1:
		read = some(l.r, 25, 26, 27, 100, l.r.Intn(2000), 1525, 1526, 1527)
	case l.c.kind == api.DevNet:
		write = some(l.r, 25, 26, 27, 100, l.r.Intn(2000), 1526, 1600)
	case q == 1:
		read = some(l.r, 0, 1, l.r.Intn(100), l.r.Intn(9000), 4095, 4096, 4097)
	}
	from, to := l.pieces(read, most), l.pieces(write, most)
	if len(from)+len(to) == 0 || len(from)+len(to) > l.size {
		return
	}
	at := l.r.Intn(l.size - len(from) - len(to) + 1)
	l.lay(q, at, from, to)
	l.spread(from, first)
	l.offer(q, at)
}

// spoils turns something of what the guest laid.
func (l *life) spoils(q int) {
	i := uint64(l.r.Intn(l.size))
	switch l.r.Intn(7) {
	case 0:
		l.poke(l.desc(q)+16*i+12, 2, some(l.r, uint64(0), 1, 2, 3, 4, 7, uint64(l.r.Intn(1<<16))))
	case 1:
		l.poke(l.desc(q)+16*i+14, 2, some(l.r, i, uint64(l.r.Intn(l.size)), uint64(l.size)))
	case 2:
		l.poke(l.desc(q)+16*i+8, 4, some(l.r, 0, 1, 512, uint64(l.r.Intn(9000)), uint64(l.r.Uint32())))
	case 3:
		l.poke(l.avail(q)+4+2*i, 2, some(l.r, uint64(l.r.Intn(l.size)), uint64(l.size), 65535))
	case 4:
		l.offered[q] += uint64(some(l.r, 1, 1, 2, l.r.Intn(l.size), 1<<15))
		l.offer(q)
	case 5:
		l.poke(l.avail(q), 2, uint64(l.r.Intn(4)))
	case 6:
		l.poke(l.l.home+uint64(l.r.Intn(3*page)), some(l.r, 1, 2, 4, 8), l.r.Uint64())
	}
}

// turns writes a register.
func (l *life) turns() {
	l.t.Helper()
	r := l.r
	off := some(r, selOffered, acceptReg, selAccepted, selQueue, sizeReg, readyReg, ackReg, statusReg, statusReg, noticeReg, descReg, usedReg+4, uint64(4*r.Intn(128)), uint64(r.Intn(0x210)))
	v := some(r, 0, 1, 2, 3, 4, 5, 7, 8, 15, 64, 0xff, 0x104, uint64(r.Intn(256)), 1<<32|4, r.Uint64())
	if off == statusReg && v == 0 && r.Intn(4) > 0 {
		v = 4
	}
	l.write(off, some(r, 4, 4, 4, 4, 4, 4, 4, 4, 1, 8), v)
}

// begins begins anew, at home or where a ring ends the memory.
func (l *life) begins() {
	l.t.Helper()
	l.begin2(some(l.r, 2, 4, 8, 16, 64))
	if l.r.Intn(8) > 0 {
		return
	}
	q := l.r.Intn(len(l.c.queues))
	end := l.l.home + homePages*page
	l.set(selQueue, uint64(q))
	l.set(readyReg, 0)
	l.setup(q, l.size, l.desc(q), l.avail(q), end-uint64(4*(1+l.r.Intn(2*l.size))))
}

// comes lets something come in.
func (l *life) comes() {
	l.t.Helper()
	n := some(l.r, 0, 1, 2, 5, 13, 14, 15, 60, 1513, 1514, 1515, l.r.Intn(70))
	l.in(pattern(n, l.r.Intn(100)))
}

// step is one thing that happens.
func (l *life) step() {
	l.t.Helper()
	q := l.r.Intn(len(l.c.queues))
	switch x := l.r.Intn(1000); {
	case x < 4 || l.c.status&64 != 0 && x < 250:
		l.begins()
	case x < 400:
		l.lays(q)
		if l.r.Intn(3) > 0 {
			l.notice(q)
		}
	case x < 650:
		l.notice(q)
	case x < 900:
		l.comes()
	case x < 930:
		l.spoils(q)
	case x < 940:
		l.turns()
		l.set(selQueue, uint64(q))
	case x < 941:
		l.take()
	case x < 960:
		l.poke(l.avail(q), 2, uint64(l.r.Intn(2)))
	default:
		l.set(ackReg, uint64(l.r.Intn(4)))
		l.read(uint64(l.r.Intn(0x204)), some(l.r, 4, 4, 4, 1, 2, 8))
	}
}

// P14.1 to P14.4, P14.6: lives of devices are as the chapter says, in all that they tell, and in every byte of the
// memory.
func TestLives(t *testing.T) {
	saw := map[string]int{}
	for seed := range int64(180) {
		r := rand.New(rand.NewSource(seed))
		kind := kinds[seed%3]
		var disk []byte
		if kind == api.DevBlk {
			disk = newDisk(some(r, 0, 1, 2, 5, 9))
		}
		l := &life{newPair(t, kind, disk, lands[seed/3%int64(len(lands))]), r}
		l.begins()
		for range 50 {
			for range 8 {
				l.step()
			}
			l.same()
			if len(l.d.Disk()) != len(disk) {
				t.Fatal("P14.6: a disk does not keep its length")
			}
		}
		for what, n := range l.c.saw {
			saw[what] += n
		}
	}
	for what, least := range map[string]int{
		"an interrupt": 500, "a quiet queue": 500, "a dead queue": 200, "no request": 100, "kind 0, status 0": 400, "kind 0, status 1": 100, "kind 1, status 0": 400, "kind 1, status 1": 100,
		"kind 4, status 0": 60, "kind 2, status 2": 60, "kind 9, status 2": 60, "no frame out": 200, "a frame lost": 20, "a frame out": 500, "no room for a frame": 200, "a frame in": 300,
		"what comes in is lost": 500, "bytes out": 500, "bytes in": 500,
	} {
		if saw[what] < least {
			t.Errorf("only %d times: %s", saw[what], what)
		}
	}
}

// P14.6: every call ends, and does what the chapter says, over memories that are all noise.
func TestNoise(t *testing.T) {
	for seed := range int64(90) {
		r := rand.New(rand.NewSource(seed))
		kind := kinds[seed%3]
		var disk []byte
		if kind == api.DevBlk {
			disk = newDisk(2)
		}
		p := newPair(t, kind, disk, lands[seed/3%int64(len(lands))])
		b := make([]byte, 3*page)
		for i := range b {
			b[i] = byte(r.Intn(256))
			if r.Intn(3) != 0 { // bytes that are small lead further
				b[i] = byte(r.Intn(4))
			}
		}
		p.fill(p.l.home, b)
		for range 30 {
			p.set(statusReg, 0)
			p.feed(r.Intn(9))
			place := func(align int) uint64 { return p.l.home + uint64(r.Intn(3*page)/align*align) }
			for q := range p.c.queues {
				avail, size := place(2), 1<<r.Intn(7)
				p.poke(avail+2, 2, uint64(1+r.Intn(size)))
				p.setup(q, size, place(16), avail, place(4))
			}
			p.set(statusReg, 4)
			for range 3 {
				p.notice(r.Intn(2))
				p.feed(1)
			}
			p.take()
		}
		p.same()
	}
}

// spy is a memory that keeps which bytes were written.
type spy struct {
	virtq.Mem
	wrote map[uint64]bool
}

func (s *spy) Write(addr uint64, size int, v uint64) bool {
	for i := range uint64(size) {
		s.wrote[addr+i] = true
	}
	return s.Mem.Write(addr, size, v)
}

// bytesOf puts the bytes of pieces into a set.
func (l *life) bytesOf(set map[uint64]bool, list ...api.Seg) {
	for _, s := range list {
		for i := range uint64(s.Len) {
			set[s.Addr+i] = true
		}
	}
}

// P14.6: a device turns only memory that a chain lets it write, and the used ring; it does not even try elsewhere.
func TestTurnsOnlyWhatItMay(t *testing.T) {
	for seed := range int64(60) {
		r := rand.New(rand.NewSource(seed))
		kind := kinds[seed%3]
		var disk []byte
		if kind == api.DevBlk {
			disk = newDisk(3)
		}
		l := &life{ready(t, kind, disk, lands[seed/3%int64(len(lands))], 64), r}
		for range 25 {
			l.begin2(64)
			q := r.Intn(len(l.c.queues))
			may := map[uint64]bool{}
			count := 1 + r.Intn(3)
			for i := range count {
				read, write := l.pieces(some(r, 0, 16, 16+sector, 100, 1526, 3000), 4), l.pieces(some(r, 0, 1, 26, 1+sector, 1+3*sector, 2000), 4)
				if len(read)+len(write) == 0 {
					write = segs(l.piece(100))
				}
				l.spread(read, head(uint32(r.Intn(2)), uint64(r.Intn(4))))
				l.lay(q, 20*i, read, write)
				l.offer(q, 20*i)
				l.bytesOf(may, write...)
			}
			l.bytesOf(may, seg(l.used(q)+2, 2), seg(l.used(q)+4, 8*count))
			was := l.l.all(t)
			l.wait(1 + r.Intn(api.MaxIn))
			if !bytes.Equal(was, l.l.all(t)) {
				t.Fatal("P14.6: memory was turned while no driver is at work")
			}
			s := &spy{l.l.m, map[uint64]bool{}}
			l.l.m = s
			l.notice(q)
			l.l.m = s.Mem
			for at := range s.wrote {
				if !may[at] {
					t.Fatalf("P14.6: kind %d, queue %d: the byte at %#x was written", kind, q, at)
				}
			}
			l.same()
		}
	}
}

// liar is a memory that says something else each time, whatever was written, and counts what it is asked.
type liar struct {
	r     *rand.Rand
	asked int
	may   bool // it refuses nothing
}

func (l *liar) says() bool { return l.may || l.r.Intn(200) != 0 }

func (l *liar) Has(uint64, int) bool {
	l.asked++
	return l.says()
}

func (l *liar) Read(_ uint64, size int) (uint64, bool) {
	l.asked++
	v := some(l.r, 0, 1, 1, 2, 2, 3, 16, 513, 1<<32-1, l.r.Uint64()>>60, l.r.Uint64())
	return v, l.says()
}

func (l *liar) Write(uint64, int, uint64) bool {
	l.asked++
	return l.says()
}

// P14.6: every call ends, whatever the memory says: one that says something else at each time it is asked, with pieces
// of up to 2^32 - 1 bytes, one that leads on for ever, and one that says yes to all.
func TestLiar(t *testing.T) {
	for seed := range int64(600) {
		kind := kinds[seed%3]
		var disk []byte
		if kind == api.DevBlk {
			disk = newDisk(api.MaxDisk)
		}
		d, _ := virtdev.New(kind, disk)
		m := &liar{r: rand.New(rand.NewSource(seed)), may: seed%2 == 0}
		for range 20 {
			d.Write(m, statusReg, 4, 0)
			for q := range uint64(2) {
				d.Write(m, selQueue, 4, q)
				d.Write(m, sizeReg, 4, 1<<m.r.Intn(7))
				d.Write(m, readyReg, 4, 1)
			}
			d.Write(m, statusReg, 4, 4)
			for range 5 {
				m.asked = 0
				sent := len(d.Out())
				d.Write(m, noticeReg, 4, uint64(m.r.Intn(2)))
				d.In(m, pattern(14, 1))
				if m.asked > 2*64*(5*64+api.MaxDisk*sector+1000) {
					t.Fatalf("P14.6: asked %d times", m.asked)
				}
				if n := len(d.Out()) - sent; n > 64*page {
					t.Fatalf("P14.3: %d bytes were sent", n)
				}
				if n := len(d.Take()); n > api.MaxIn {
					t.Fatalf("P14.3: %d frames wait", n)
				}
				if len(d.Disk()) != len(disk) {
					t.Fatal("P14.6: a disk does not keep its length")
				}
			}
		}
	}
}

// vast is a memory that has every byte, each 0 but for what was written, and one chain of a queue with a piece of
// 2^32 - 1 bytes at each of its descriptors.
type vast struct {
	bytes map[uint64]byte
	asked int
}

func (v *vast) Has(uint64, int) bool { return true }

func (v *vast) Read(addr uint64, size int) (n uint64, ok bool) {
	v.asked++
	for i := range uint64(size) {
		n |= uint64(v.bytes[addr+i]) << (8 * i)
	}
	return n, true
}

func (v *vast) Write(addr uint64, size int, n uint64) bool {
	v.asked++
	for i := range uint64(size) {
		v.bytes[addr+i] = byte(n >> (8 * i))
	}
	return true
}

// P14.3: chains of 63 pieces of 2^32 - 1 bytes each: what is not wanted of them is not gone through.
func TestVast(t *testing.T) {
	const long = 1<<32 - 1
	for _, kind := range kinds {
		for q := range uint64(len(newChapter(kind, nil).queues)) {
			var disk []byte
			if kind == api.DevBlk {
				disk = newDisk(2)
			}
			d, _ := virtdev.New(kind, disk)
			for _, reads := range []int{0, 1, 31, 63, 64} {
				m := &vast{bytes: map[uint64]byte{}}
				d.Write(m, statusReg, 4, 0)
				for off, v := range map[uint64]uint64{sizeReg: 64, descReg: 0x1000, availReg: 0x2000, usedReg: 0x3000} {
					d.Write(m, selQueue, 4, q)
					d.Write(m, off, 4, v)
				}
				d.Write(m, readyReg, 4, 1)
				for i := range 64 {
					flags := more
					if i >= reads {
						flags |= written
					}
					if i == 63 {
						flags &^= more
					}
					at := 0x1000 + 16*uint64(i)
					m.Write(at, 8, uint64(i+1)<<40)
					m.Write(at+8, 4, long)
					m.Write(at+12, 2, uint64(flags))
					m.Write(at+14, 2, uint64(i+1))
				}
				m.Write(1<<40, 4, 0) // of a disk: a read of more than it has
				m.Write(0x2002, 2, 1)
				d.Write(m, statusReg, 4, 4)
				d.In(m, []byte("a frame of some bytes"))
				m.asked = 0
				d.Write(m, noticeReg, 4, q)
				if m.asked > 10000 {
					t.Errorf("P14.3: asked %d times", m.asked)
				}
				if n, _ := m.Read(0x3002, 2); n != 1 {
					t.Errorf("P14.3: kind %d, queue %d, %d to read: %d were given back", kind, q, reads, n)
				}
				if kind == api.DevBlk && reads > 0 && reads < 64 && (m.bytes[64<<40+long-1] != failed || len(m.bytes) > 2000) {
					t.Errorf("P14.3: %d to read: the status is %d", reads, m.bytes[64<<40+long-1])
				}
				if kind == api.DevConsole && q == 1 && len(d.Out())%page != 0 {
					t.Errorf("P14.3: %d bytes were sent", len(d.Out()))
				}
			}
		}
	}
}
