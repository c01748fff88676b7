package virtdev_test

import (
	"bytes"
	"math"
	"math/rand"
	"reflect"
	"slices"
	"testing"

	"citadel/api"
	"citadel/frame"
	"citadel/ram"
	"citadel/stage"
	"citadel/virtdev"
	"citadel/virtq"
)

const (
	ones   = math.MaxUint64
	page   = api.PageSize
	sector = 512

	// Where queue q lies from a memory's home on: q pages behind these. Data may lie from dataAt on.
	descAt  = 0x000
	availAt = 0x400
	usedAt  = 0x800
	dataAt  = 0x2000

	homePages = 24 // so many pages from home on may be written

	// Registers.
	magicReg    = 0x00
	versionReg  = 0x04
	kindReg     = 0x08
	vendorReg   = 0x0c
	offeredReg  = 0x10
	selOffered  = 0x14
	acceptReg   = 0x20
	selAccepted = 0x24
	selQueue    = 0x30
	maxReg      = 0x34
	sizeReg     = 0x38
	readyReg    = 0x44
	noticeReg   = 0x50
	intsReg     = 0x60
	ackReg      = 0x64
	statusReg   = 0x70
	descReg     = 0x80
	availReg    = 0x90
	usedReg     = 0xa0
	sectorsReg  = 0x100
	lastReg     = 0x1fc

	// Descriptors' flags.
	more    = 1
	written = 2
)

// kinds are all kinds of devices.
var kinds = []int{api.DevNet, api.DevBlk, api.DevConsole}

// part is a piece of a memory: its bytes, and whether they may be written.
type part struct {
	from, to uint64
	writable bool
}

// land is a memory, and all that it has.
type land struct {
	name  string
	m     virtq.Mem
	host  *ram.RAM // where its bytes lie
	parts []part
	home  uint64 // from there on it has homePages that may be written
}

// newRAM is a memory that is a RAM.
func newRAM(t *testing.T, base uint64) *land {
	t.Helper()
	m, e := ram.New(base, homePages)
	if e != api.OK {
		t.Fatalf("no memory from %#x on: %d", base, e)
	}
	return &land{"RAM", m, m, []part{{base, base + homePages*page, true}}, base}
}

// newSpace is a memory that is a Space: its home, whose frames lie the other way round, then a page that is not
// written, one that is, one that is not even read, a gap, and its home's first data page once more.
func newSpace(t *testing.T) *land {
	t.Helper()
	host, _ := ram.New(api.RamBase, 48)
	p, e := frame.New(host, 36, 1)
	if e != api.OK {
		t.Fatal("no pool")
	}
	s, e := stage.New(host, p, 1)
	if e != api.OK {
		t.Fatal("no space")
	}
	const first = 0x80000
	l := &land{name: "Space", m: s, host: host, home: first * page}
	list := []api.Page{
		{Page: first + homePages, Frame: 30, Perm: api.PteR},
		{Page: first + homePages + 1, Frame: 31, Perm: api.PteR | api.PteW},
		{Page: first + homePages + 2, Frame: 32, Perm: api.PteX},
		{Page: first + homePages + 4, Frame: homePages - 1 - dataAt/page, Perm: api.PteR | api.PteW},
	}
	for i := range homePages {
		list = append(list, api.Page{Page: uint64(first + i), Frame: homePages - 1 - i, Perm: api.PteR | api.PteW | api.PteX})
	}
	for _, x := range list {
		if e := s.Map(x.Page, x.Frame, x.Perm); e != api.OK {
			t.Fatalf("no page %+v: %d", x, e)
		}
		l.parts = append(l.parts, part{x.Page * page, (x.Page + 1) * page, x.Perm&api.PteW != 0})
	}
	return l
}

// lands are memories of all kinds, each new.
var lands = []func(t *testing.T) *land{
	func(t *testing.T) *land { return newRAM(t, 0) },
	func(t *testing.T) *land { return newRAM(t, 1<<52) },
	newSpace,
}

// writes tells whether the byte at an address may be written.
func (l *land) writes(at uint64) bool {
	for _, p := range l.parts {
		if at >= p.from && at < p.to {
			return p.writable
		}
	}
	return false
}

// all is all bytes of its host.
func (l *land) all(t *testing.T) []byte {
	t.Helper()
	b, ok := l.host.Bytes(l.host.Base(), l.host.Frames()*page)
	if !ok {
		t.Fatal("no bytes")
	}
	return b
}

// pair is a device under test and the chapter's, each over a memory of its own with the same bytes, and a driver that
// leads both.
type pair struct {
	t       *testing.T
	d       *virtdev.Dev
	c       *chapter
	l, r    *land
	size    int
	offered [2]uint64 // how many chains the driver has made available
	seen    [2]uint64 // how many of those given back it has seen
}

// newPair is one that is new.
func newPair(t *testing.T, kind int, disk []byte, home func(t *testing.T) *land) *pair {
	t.Helper()
	d, e := virtdev.New(kind, disk)
	if e != api.OK {
		t.Fatalf("P14.1: New(%d, %d bytes) = %d", kind, len(disk), e)
	}
	p := &pair{t: t, d: d, c: newChapter(kind, disk), l: home(t), r: home(t)}
	p.same()
	return p
}

// ready is one whose queues are of a size and ready, and whose driver is at work.
func ready(t *testing.T, kind int, disk []byte, home func(t *testing.T) *land, size int) *pair {
	t.Helper()
	p := newPair(t, kind, disk, home)
	p.begin(size)
	return p
}

// begin makes its queues ready, and sets the driver to work.
func (p *pair) begin(size int) {
	p.t.Helper()
	p.offered, p.seen = [2]uint64{}, [2]uint64{}
	for q := range p.c.queues {
		p.poke(p.avail(q), 4, 0)
		p.setup(q, size, p.desc(q), p.avail(q), p.used(q))
		p.reads(readyReg, 1)
	}
	p.size = size
	p.set(statusReg, 4)
	p.same()
}

// setup writes a queue's registers, and asks that it be ready.
func (p *pair) setup(q, size int, desc, avail, used uint64) {
	p.t.Helper()
	p.set(selQueue, uint64(q))
	p.set(sizeReg, uint64(size))
	for off, at := range map[uint64]uint64{descReg: desc, availReg: avail, usedReg: used} {
		p.set(off, at&0xffffffff)
		p.set(off+4, at>>32)
	}
	p.set(readyReg, 1)
}

// Where the parts of a queue lie.
func (p *pair) desc(q int) uint64  { return p.l.home + descAt + uint64(q)*page }
func (p *pair) avail(q int) uint64 { return p.l.home + availAt + uint64(q)*page }
func (p *pair) used(q int) uint64  { return p.l.home + usedAt + uint64(q)*page }

// data is an address where data may lie.
func (p *pair) data(off int) uint64 { return p.l.home + dataAt + uint64(off) }

// poke writes a number into both memories, as a guest does.
func (p *pair) poke(at uint64, n int, v uint64) {
	for i := range uint64(n) {
		for _, l := range []*land{p.l, p.r} {
			if l.writes(at + i) {
				l.m.Write(at+i, 1, v>>(8*i))
			}
		}
	}
}

// fill writes bytes into both memories.
func (p *pair) fill(at uint64, b []byte) {
	if p.l.name == "RAM" && p.l.m.Has(at, len(b)) {
		p.l.host.Fill(at, b)
		p.r.host.Fill(at, b)
		return
	}
	for i, v := range b {
		p.poke(at+uint64(i), 1, uint64(v))
	}
}

// peek is a number of the memory.
func (p *pair) peek(at uint64, n int) uint64 {
	p.t.Helper()
	v, ok := p.l.m.Read(at, n)
	if !ok {
		p.t.Fatalf("no byte at %#x", at)
	}
	return v
}

// bytes are bytes of the memory.
func (p *pair) bytes(at uint64, n int) []byte {
	p.t.Helper()
	if b, ok := p.l.host.Bytes(at, n); ok && p.l.name == "RAM" {
		return b
	}
	b := make([]byte, n)
	for i := range b {
		b[i] = byte(p.peek(at+uint64(i), 1))
	}
	return b
}

// gather are the bytes of pieces, one behind the other.
func (p *pair) gather(list []api.Seg) []byte {
	p.t.Helper()
	var b []byte
	for _, s := range list {
		b = append(b, p.bytes(s.Addr, s.Len)...)
	}
	return b
}

// spread writes bytes over pieces.
func (p *pair) spread(list []api.Seg, b []byte) {
	for _, s := range list {
		n := min(s.Len, len(b))
		p.fill(s.Addr, b[:n])
		b = b[n:]
	}
}

// descriptor writes a descriptor.
func (p *pair) descriptor(q, i int, addr, length, flags, next uint64) {
	at := p.desc(q) + 16*uint64(i)
	p.poke(at, 8, addr)
	p.poke(at+8, 4, length)
	p.poke(at+12, 2, flags)
	p.poke(at+14, 2, next)
}

// lay lays a chain from a descriptor on.
func (p *pair) lay(q, head int, read, write []api.Seg) {
	p.t.Helper()
	all := slices.Concat(read, write)
	if len(all) == 0 || head+len(all) > p.size {
		p.t.Fatalf("no chain of %d pieces from %d on", len(all), head)
	}
	for i, s := range all {
		flags := uint64(0)
		if i >= len(read) {
			flags = written
		}
		if i < len(all)-1 {
			flags |= more
		}
		p.descriptor(q, head+i, s.Addr, uint64(s.Len), flags, uint64(head+i+1))
	}
}

// offer makes chains available.
func (p *pair) offer(q int, heads ...int) {
	for _, h := range heads {
		p.poke(p.avail(q)+4+2*(p.offered[q]%uint64(p.size)), 2, uint64(h))
		p.offered[q]++
	}
	p.poke(p.avail(q)+2, 2, p.offered[q])
}

// given is a chain that was given back.
type given struct {
	head int
	n    uint64
}

// gave are the chains that were given back since it was asked last.
func (p *pair) gave(q int) []given {
	p.t.Helper()
	var list []given
	for uint16(p.peek(p.used(q)+2, 2)) != uint16(p.seen[q]) {
		at := p.used(q) + 4 + 8*(p.seen[q]%uint64(p.size))
		list = append(list, given{int(p.peek(at, 4)), p.peek(at+4, 4)})
		p.seen[q]++
		if len(list) > 1<<16 {
			p.t.Fatal("the used ring's index is nonsense")
		}
	}
	return list
}

// gives fails if other chains than these were given back.
func (p *pair) gives(q int, want ...given) {
	p.t.Helper()
	if got := p.gave(q); !slices.Equal(got, want) {
		p.t.Fatalf("P14.3: given back: %v, not %v (%s)", got, want, p.l.name)
	}
}

// notice tells both that a queue has chains.
func (p *pair) notice(q int) {
	p.t.Helper()
	p.set(noticeReg, uint64(q))
}

// ask lays one chain, has it served, and tells how many bytes were written, as it was given back with.
func (p *pair) ask(q int, read, write []api.Seg) uint64 {
	p.t.Helper()
	p.lay(q, 0, read, write)
	p.offer(q, 0)
	p.notice(q)
	l := p.gave(q)
	if len(l) != 1 || l[0].head != 0 {
		p.t.Fatalf("P14.3: given back: %v (%s)", l, p.l.name)
	}
	return l[0].n
}

// read reads a register of both.
func (p *pair) read(off uint64, size int) (uint64, bool) {
	p.t.Helper()
	v, ok := p.d.Read(off, size)
	want, is := p.c.read(off, size)
	if v != want || ok != is {
		p.t.Fatalf("P14.2: Read(%#x, %d) = %#x, %v, not %#x, %v", off, size, v, ok, want, is)
	}
	return v, ok
}

// reads fails if a register does not tell that.
func (p *pair) reads(off, want uint64) {
	p.t.Helper()
	if v, ok := p.read(off, 4); !ok || v != want {
		p.t.Fatalf("P14.2: Read(%#x) = %#x, %v, not %#x", off, v, ok, want)
	}
}

// write writes a register of both; what they tell of their registers is the same then.
func (p *pair) write(off uint64, size int, v uint64) bool {
	p.t.Helper()
	ok, is := p.d.Write(p.l.m, off, size, v), p.c.write(p.r, off, size, v)
	if ok != is {
		p.t.Fatalf("P14.2: Write(%#x, %d, %#x) = %v", off, size, v, ok)
	}
	p.told()
	return ok
}

// set writes a register that is one.
func (p *pair) set(off, v uint64) {
	p.t.Helper()
	if !p.write(off, 4, v) {
		p.t.Fatalf("P14.2: Write(%#x) = false", off)
	}
}

// in lets bytes come in to both.
func (p *pair) in(b []byte) bool {
	p.t.Helper()
	was := bytes.Clone(b)
	ok, is := p.d.In(p.l.m, b), p.c.in(p.r, b)
	if ok != is {
		p.t.Fatalf("P14.4: In(%d bytes) = %v", len(b), ok)
	}
	if !bytes.Equal(was, b) {
		p.t.Fatal("R3: In turned what was handed in")
	}
	p.told()
	return ok
}

// take takes the frames that both have sent.
func (p *pair) take() [][]byte {
	p.t.Helper()
	got, want := p.d.Take(), p.c.take()
	if len(got)+len(want) > 0 && !reflect.DeepEqual(got, want) {
		p.t.Fatalf("P14.1: Take = %v, not %v", got, want)
	}
	return got
}

// told fails if the two do not tell the same of their registers.
func (p *pair) told() {
	p.t.Helper()
	for off := uint64(0); off <= lastReg; off += 4 {
		v, ok := p.d.Read(off, 4)
		if want, _ := p.c.read(off, 4); v != want || !ok {
			p.t.Fatalf("P14.2: Read(%#x, 4) = %#x, %v, not %#x", off, v, ok, want)
		}
	}
	if got := p.d.Irq(); got != (p.c.ints != 0) {
		p.t.Fatalf("P14.4: Irq = %v", got)
	}
	if got := p.d.Kind(); got != p.c.kind {
		p.t.Fatalf("P14.1: Kind = %d", got)
	}
}

// same fails if the two tell not the same of themselves, and of what they have and have sent, or their memories have not
// the same bytes.
func (p *pair) same() {
	p.t.Helper()
	p.told()
	if got := p.d.Out(); !bytes.Equal(got, p.c.sent) {
		p.t.Fatalf("P14.1: Out = %d bytes, not %d", len(got), len(p.c.sent))
	}
	if got := p.d.Disk(); !bytes.Equal(got, p.c.disk) {
		p.t.Fatalf("P14.1: the disk (%d bytes) is not as it must be (%d)", len(got), len(p.c.disk))
	}
	for i := range uint64(p.l.host.Frames()) {
		at := p.l.host.Base() + i*page
		got, _ := p.l.host.Bytes(at, page)
		if want, ok := p.r.host.Bytes(at, page); !ok || !bytes.Equal(got, want) {
			p.t.Fatalf("P14.6: the memory is not as it must be (%s, frame %d)", p.l.name, i)
		}
	}
}

// is fails if status and interrupts are not these.
func (p *pair) is(status, ints uint64) {
	p.t.Helper()
	p.reads(statusReg, status)
	p.reads(intsReg, ints)
	if p.d.Irq() != (ints != 0) {
		p.t.Fatalf("P14.4: Irq = %v with the interrupts %d", p.d.Irq(), ints)
	}
	p.same()
}

// seg is a piece.
func seg(addr uint64, n int) api.Seg { return api.Seg{Addr: addr, Len: n} }

// segs is a list of pieces.
func segs(list ...api.Seg) []api.Seg { return list }

// sizeOf is how many bytes pieces have.
func sizeOf(list []api.Seg) (n int) {
	for _, s := range list {
		n += s.Len
	}
	return n
}

// split cuts n bytes from an address on into pieces of these lengths, and the rest; a piece of 0 bytes is one too. The
// pieces stand apart from each other, in falling order.
func split(at uint64, n int, lengths ...int) []api.Seg {
	var list []api.Seg
	for _, x := range lengths {
		x = max(0, min(x, n))
		list, n = append(list, api.Seg{Len: x}), n-x
	}
	list = append(list, api.Seg{Len: n})
	for i := len(list) - 1; i >= 0; i-- {
		list[i].Addr = at
		at += uint64(list[i].Len) + 3
	}
	return list
}

// pattern are n bytes, none of which is 0.
func pattern(n, seed int) []byte {
	b := make([]byte, n)
	for i := range b {
		b[i] = byte(1 + (i*7+i/251+seed*31)%255)
	}
	return b
}

// newDisk is a disk's bytes.
func newDisk(sectors int) []byte { return pattern(sectors*sector, sectors) }

// newFrame is a frame of n bytes.
func newFrame(n, seed int) []byte { return pattern(n, seed) }

// some is one of a list, by chance.
func some[T any](r *rand.Rand, list ...T) T { return list[r.Intn(len(list))] }

// head is the head of a request to a disk.
func head(kind uint32, sector uint64) []byte {
	b := []byte{4: 0xa5, 5: 0x5a, 6: 0xff, 7: 0x11, 15: 0}
	for i := range 4 {
		b[i] = byte(kind >> (8 * i))
	}
	for i := range 8 {
		b[8+i] = byte(sector >> (8 * i))
	}
	return b
}
