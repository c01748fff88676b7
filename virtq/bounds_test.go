package virtq_test

import (
	"testing"

	"citadel/api"
	"citadel/ram"
	"citadel/virtq"
)

// P13.2: the index, the head and a descriptor that lie out of the memory, each by itself.
func TestNextOutOfBounds(t *testing.T) {
	for _, kind := range lands[1:] {
		for _, size := range sizes {
			home := newPair(t, kind)
			begin, end := home.l.home, home.l.parts[len(home.l.parts)-1].to
			for _, x := range []struct {
				name        string
				desc, avail uint64
				head        uint64
				want        api.Errno
			}{
				{"nothing", begin + descAt, begin + availAt, 0, api.OK},
				{"the index at the end", begin + descAt, end - 2, 0, api.ErrBound},
				{"the index ahead of the beginning", begin + descAt, begin - 4, 0, api.ErrBound},
				{"the flags alone", begin + descAt, begin - 2, 0, api.OK},
				{"the head at the end", begin + descAt, end - 4, 0, api.ErrBound},
				{"just not the head", begin + descAt, end - 6, 0, api.OK},
				{"the descriptor at the end", end, begin + availAt, 0, api.ErrBound},
				{"just not the descriptor", end - 16, begin + availAt, 0, api.OK},
				{"the last descriptor", end - 16*uint64(size), begin + availAt, uint64(size - 1), api.OK},
				{"a descriptor behind the end", end - 16*uint64(size-1), begin + availAt, uint64(size - 1), api.ErrBound},
				{"the first ahead of the beginning", begin - 16, begin + availAt, 0, api.ErrBound},
			} {
				p := newPair(t, kind)
				p.setup(size, x.desc, x.avail, begin+usedAt)
				p.descriptor(int(x.head), begin+dataAt, 1, 0, 0)
				p.offer(1, x.head)
				_, ok, e := p.next()
				if e != x.want || ok != (e == api.OK) || p.q.Dead() == ok {
					t.Errorf("P13.2: %s, size %d: %v, %d", x.name, size, ok, e)
				}
			}
		}
	}
}

// P13.2: a head that lies behind the end is asked when its turn comes.
func TestNextHeadBehindTheEnd(t *testing.T) {
	for _, kind := range lands {
		for _, size := range []int{2, 4, 64} {
			for fit := range size {
				p := newPair(t, kind)
				end := p.l.parts[len(p.l.parts)-1].to
				p.setup(size, p.at(descAt), end-4-2*uint64(fit), p.at(usedAt))
				p.descriptor(0, p.at(dataAt), 1, 0, 0)
				for range fit {
					p.offer(1, 0)
					p.tells(api.Chain{Read: segs(api.Seg{Addr: p.at(dataAt), Len: 1})})
				}
				p.none()
				p.ahead(1)
				p.fails(api.ErrBound)
			}
		}
	}
}

// P13.2: a chain that leads to a descriptor out of the memory; those ahead of it were good.
func TestNextLeadsOut(t *testing.T) {
	for _, kind := range lands {
		for _, size := range sizes[1:] {
			p := newPair(t, kind)
			end := p.l.parts[len(p.l.parts)-1].to
			p.setup(size, end-16*uint64(size-1), p.at(availAt), p.at(usedAt))
			for i := range size - 1 {
				p.descriptor(i, p.at(dataAt), 1, more, uint64(i+1))
			}
			p.offer(1, 0)
			p.fails(api.ErrBound)
			p.descriptor(size-2, p.at(dataAt), 1, 0, 0)
			if c, ok, _ := p.next(); !ok || len(c.Read) != size-1 {
				t.Errorf("P13.2: %v, %v", c, ok)
			}
		}
	}
}

// holes is a RAM that lacks one byte.
type holes struct {
	*ram.RAM
	lacks uint64
}

func (h *holes) Has(addr uint64, n int) bool {
	return h.RAM.Has(addr, n) && (h.lacks < addr || h.lacks-addr >= uint64(n))
}

func (h *holes) Read(addr uint64, size int) (uint64, bool) {
	if !h.Has(addr, size) {
		return 0, false
	}
	return h.RAM.Read(addr, size)
}

func (h *holes) Write(addr uint64, size int, v uint64) bool {
	return h.Has(addr, size) && h.RAM.Write(addr, size, v)
}

// within tells whether a byte lies in one of some pieces.
func within(at uint64, pieces ...[2]uint64) bool {
	for _, p := range pieces {
		if at >= p[0] && at < p[0]+p[1] {
			return true
		}
	}
	return false
}

// worked is a queue that has taken and given back one chain, and has one of two descriptors to take.
func worked(t *testing.T) (*virtq.Queue, *ram.RAM) {
	t.Helper()
	p := ready(t, lands[0], 4)
	p.descriptor(0, p.at(dataAt), 1, 0, 0)
	p.offer(1, 0)
	p.next()
	p.push(0, 1)
	p.descriptor(2, p.at(dataAt), 8, more, 3)
	p.descriptor(3, p.at(dataAt+0x100), 4, written, 2)
	p.offer(1, 2)
	p.poke(p.c.avail, 2, 1)
	return p.q, p.l.host
}

// P13.2, P13.3: each byte of what is read and written must lie in the memory, and no other: a memory that lacks a byte,
// each in turn.
func TestEachByteLacks(t *testing.T) {
	taken := [][2]uint64{{availAt + 2, 2}, {availAt + 4 + 2*1, 2}, {descAt + 16*2, 32}, {dataAt, 8}, {dataAt + 0x100, 4}}
	given := [][2]uint64{{usedAt + 2, 2}, {usedAt + 4 + 8*1, 8}}
	for lacks := range uint64(page + 1) {
		q, m := worked(t)
		h := &holes{m, lacks}
		if got, want := q.Quiet(h), !within(lacks, [2]uint64{availAt, 2}); got != want {
			t.Fatalf("P13.3: without the byte %#x: Quiet = %v", lacks, got)
		}
		_, ok, e := q.Next(h)
		if lack := within(lacks, taken...); ok == lack || q.Dead() != lack || lack && e != api.ErrBound || !lack && e != api.OK {
			t.Fatalf("P13.2: without the byte %#x: Next is %v, %d", lacks, ok, e)
		}
		q, m = worked(t)
		h = &holes{m, lacks}
		want := api.Errno(api.OK)
		if within(lacks, given...) {
			want = api.ErrBound
		}
		if e := q.Push(h, 2, 12); e != want || q.Dead() != (want != api.OK) {
			t.Fatalf("P13.3: without the byte %#x: Push = %d", lacks, e)
		}
	}
}

// P13.3: what was written ahead of the first number that may not be stays, and nothing behind it is written.
func TestPushUpToWhatLacks(t *testing.T) {
	const at = usedAt + 4 + 8
	for _, x := range []struct {
		lacks               uint64
		head, length, index bool
	}{
		{at, false, false, false}, {at + 3, false, false, false},
		{at + 4, true, false, false}, {at + 7, true, false, false},
		{usedAt + 2, true, true, false}, {usedAt + 3, true, true, false},
		{at + 8, true, true, true}, {usedAt + 1, true, true, true},
	} {
		q, m := worked(t)
		q.Push(&holes{m, x.lacks}, 0x11111111, 0x22222222)
		head, _ := m.Read(at, 4)
		length, _ := m.Read(at+4, 4)
		index, _ := m.Read(usedAt+2, 2)
		if head == 0x11111111 != x.head || length == 0x22222222 != x.length || index == 2 != x.index {
			t.Errorf("P13.3: without the byte %#x: %#x, %#x, %d", x.lacks, head, length, index)
		}
	}
}
