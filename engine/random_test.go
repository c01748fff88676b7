package engine_test

import (
	"bytes"
	"math/rand"
	"slices"
	"testing"

	"citadel/api"
	"citadel/engine"
	"citadel/iommu"
	"citadel/ram"
)

// some is one of a list.
func some[T any](r *rand.Rand, list ...T) T { return list[r.Intn(len(list))] }

// life is an engine, and the chapter beside it, each in a world of its own that begins the same.
type life struct {
	*rand.Rand
	t      *testing.T
	w      *world
	c      *chapter
	counts map[string]int
}

// twin is a copy of a memory, and an IOMMU over it, if there is to be one.
func (l *life) twin(m *ram.RAM, guarded bool, room int, deeds []func(*ram.RAM, *iommu.IOMMU)) (*ram.RAM, *iommu.IOMMU) {
	m = m.Copy()
	if !guarded {
		return m, nil
	}
	u, e := iommu.New(m, room)
	if e != api.OK {
		l.t.Fatal(e)
	}
	for _, do := range deeds {
		do(m, u)
	}
	return m, u
}

// leaf is an entry of a table of level 0: mostly of a frame that is an engine's, seldom of the table's own or the ring's.
func (l *life) leaf(base uint64) uint64 {
	frame := base/size + some[uint64](l.Rand, one, two, far, readOnly, one, two, far, readOnly, one, two, table+2, ringAt, frames)
	bits := some[uint64](l.Rand, full, full, full, full, full, full, full&^api.PteW, full&^api.PteR, 0)
	return frame<<10 | bits
}

// born is a life with worlds that begin the same.
func born(t *testing.T, seed int64, counts map[string]int) *life {
	l := &life{Rand: rand.New(rand.NewSource(seed)), t: t, counts: counts}
	base, guarded, dev, room := some(l.Rand, bases...), l.Intn(3) != 0, l.Intn(api.MaxDevs), 1+l.Intn(4)
	var deeds []func(*ram.RAM, *iommu.IOMMU)
	for p := range uint64(6) {
		e := l.leaf(base)
		deeds = append(deeds, func(m *ram.RAM, _ *iommu.IOMMU) { m.Write(base+(table+2)*size+8*p, 8, e) })
	}
	index, to := uint64(l.Intn(4)), api.Msi{Guest: 1 + l.Intn(3), Irq: l.Intn(40)}
	deeds = append(deeds, func(m *ram.RAM, u *iommu.IOMMU) {
		m.Write(base+table*size, 8, (base/size+table+1)<<10|api.PteV)
		m.Write(base+(table+1)*size, 8, (base/size+table+2)<<10|api.PteV)
		u.Set(dev, base/size+table)
		u.Ring(base + ringAt*size)
		u.Remap(dev, index, to)
		u.Remap(dev, 0, api.Msi{Guest: 3, Irq: 1})
	})
	m := memory(t, base)
	l.c = &chapter{dev: dev}
	l.c.m, l.c.u = l.twin(m, guarded, room, deeds)
	l.w = &world{t: t, dev: dev}
	l.w.m, l.w.u = l.twin(m, guarded, room, deeds)
	if !guarded {
		l.w.Engine = engine.Flat(l.w.m)
		return l
	}
	var e api.Errno
	if l.w.Engine, e = engine.New(dev, l.w.m, l.w.u); e != api.OK {
		t.Fatal(e)
	}
	return l
}

// addr is an address that may be copied from or to.
func (l *life) addr() uint64 {
	first := uint64(0)
	if l.w.u == nil {
		first = l.w.at(some(l.Rand, 0, one, two, far, frames-1))
	}
	at := first + uint64(l.Intn(6))*size + some[uint64](l.Rand, 0, 8, 16, 64, 72, size-8, size-16, size-64, 8*uint64(l.Intn(size/8)))
	switch l.Intn(40) {
	case 0:
		return at + uint64(l.Intn(8))
	case 1:
		return some(l.Rand, uint64(ones-7), ones-15, 1<<39, 1<<63, l.w.m.Base()-8, at|1<<52)
	}
	return at
}

// word is a number for a register.
func (l *life) word(off uint64) uint64 {
	switch off / 8 * 8 {
	case src, dst:
		return l.addr()
	case length:
		return some(l.Rand, 8, 16, 24, 24, 40, 64, 64, uint64(l.Intn(70)), size, size-8, size+8, 0, 1<<32|8)
	case control:
		return some(l.Rand, 1, 1, 1, 1, 0, 2, 3, uint64(l.Intn(16)), l.Uint64())
	case msi:
		return some(l.Rand, api.MsiBase, api.MsiBase, api.MsiBase, 0, 0, api.MsiBase+8, l.Uint64())
	case data:
		return some(l.Rand, 0, 0, 0, uint64(l.Intn(4)), uint64(l.Intn(18)), l.Uint64())
	}
	return l.Uint64() >> l.Intn(64)
}

// place is an offset and a size: mostly of a register, or of its half.
func (l *life) place() (uint64, int) {
	off := some[uint64](l.Rand, src, dst, length, control, status, msi, data)
	switch l.Intn(10) {
	case 0:
		return off + 4*uint64(l.Intn(2)), 4
	case 1:
		return some(l.Rand, append(offs, off+uint64(l.Intn(20)))...), some(l.Rand, sizes...)
	}
	return off, 8
}

// write writes a register.
func (l *life) write(off uint64, n int, v uint64) {
	l.t.Helper()
	busy := l.w.Busy()
	got, want := l.w.Write(off, n, v), l.c.write(off, n, v)
	if got != want {
		l.t.Fatalf("P8.1: Write(%#x, %d, %#x) = %v", off, n, v, got)
	}
	switch {
	case !want:
		l.counts["refused"]++
	case busy && !l.w.Busy():
		l.counts["stopped"]++
	case busy:
		l.counts["deaf"]++
	case l.w.Busy():
		l.counts["begun"]++
	}
}

// step does a step, and watches what P8.3 says of it.
func (l *life) step() {
	l.t.Helper()
	busy := l.w.Busy()
	was := l.w.all()
	got, ok := l.w.Step()
	want, wants := l.c.step()
	if got != want || ok != wants {
		l.t.Fatalf("P8.2: Step = %v, %v, not %v, %v", got, ok, want, wants)
	}
	v, _ := l.w.Read(status, 8)
	switch {
	case !busy:
		l.counts["still"]++
		l.w.turned("P8.3", was)
	case v == running:
		l.counts["copied"]++
	case v == done && ok:
		l.counts["done, sent"]++
	case v == done:
		l.counts["done"]++
	case ok:
		l.counts["failed, sent"]++
	default:
		l.counts["failed"]++
	}
	l.sparing(was, v == failed)
}

// sparing fails if a step turned more than 8 bytes and a record, or, where it failed, anything but two records.
func (l *life) sparing(was []byte, blocked bool) {
	l.t.Helper()
	now := l.w.all()
	ring := int(l.w.at(ringAt) - l.w.m.Base())
	units, records := 0, map[int]bool{}
	for i := 0; i < len(now); i += 8 {
		switch {
		case bytes.Equal(now[i:i+8], was[i:i+8]):
		case blocked && i >= ring:
			records[i/16] = true
		default:
			units++
		}
	}
	if blocked && units > 0 || len(records) > 2 || units > 3 {
		l.t.Fatalf("P8.3: a step turned %d times 8 bytes, and %d records", units, len(records))
	}
}

// like fails if the engine, its memory or its IOMMU is not as the chapter says.
func (l *life) like() {
	l.t.Helper()
	for off := uint64(0); off < behind; off += 8 {
		want, _ := l.c.read(off, 8)
		l.w.reads("P8.1", off, want)
	}
	if l.w.Busy() != (l.c.reg(status) == running) {
		l.t.Fatalf("P8.2: Busy is %v", l.w.Busy())
	}
	l.w.like(l.c)
}

// like fails if the memory or the IOMMU is not as the chapter's.
func (w *world) like(c *chapter) {
	w.t.Helper()
	b, _ := c.m.Bytes(c.m.Base(), c.m.Frames()*size)
	if !bytes.Equal(w.all(), b) {
		w.t.Fatal("P8.2: the memory is not as the chapter says")
	}
	if w.u != nil && (!slices.Equal(w.u.Entries(), c.u.Entries()) || w.u.Overflow() != c.u.Overflow()) {
		w.t.Fatalf("P8.2: the IOMMU was asked otherwise than the chapter says: %v, not %v", w.u.Entries(), c.u.Entries())
	}
}

// aside does something to what stands around the engines.
func (l *life) aside() {
	l.t.Helper()
	at, v := l.w.at(some(l.Rand, one, two, far))+8*uint64(l.Intn(16)), l.Uint64()
	l.w.m.Write(at, 8, v)
	l.c.m.Write(at, 8, v)
	if l.w.u == nil {
		return
	}
	i, p, e := l.Intn(4), uint64(l.Intn(6)), l.leaf(l.w.m.Base())
	for _, x := range []struct {
		m *ram.RAM
		u *iommu.IOMMU
	}{{l.w.m, l.w.u}, {l.c.m, l.c.u}} {
		x.u.Evict(i)
		x.m.Write(l.w.at(table+2)+8*p, 8, e)
		x.u.InvalidatePage(l.c.dev, p)
		x.u.Next()
		x.u.Next()
	}
}

// P8.1, P8.2, P8.3: lives of engines, with an IOMMU and without, are as the chapter says.
func TestLives(t *testing.T) {
	counts := map[string]int{}
	for seed := range int64(60) {
		l := born(t, seed, counts)
		for range 200 {
			switch n := l.Intn(100); {
			case n < 35:
				for l.step(); l.w.Busy() && l.Intn(8) != 0; {
					l.step()
				}
			case n < 60:
				off, n := l.place()
				l.write(off, n, l.word(off))
			case n < 80:
				for _, off := range []uint64{src, dst, length, msi, data} {
					l.write(off, 8, l.word(off))
				}
				l.write(control, 8, 1)
			case n < 82:
				l.w.Reset()
				l.c.reset()
			case n < 90:
				off, n := l.place()
				got, ok := l.w.Read(off, n)
				if want, is := l.c.read(off, n); got != want || ok != is {
					t.Fatalf("P8.1: Read(%#x, %d) = %#x, %v", off, n, got, ok)
				}
			default:
				l.aside()
			}
			l.like()
		}
	}
	for _, kind := range []string{"refused", "stopped", "deaf", "begun", "still", "copied", "done", "done, sent", "failed", "failed, sent"} {
		if counts[kind] < 40 {
			t.Errorf("only %d times: %s", counts[kind], kind)
		}
	}
}

// P8.3: whatever runs ends behind at most PageSize / 8 steps.
func TestItEnds(t *testing.T) {
	counts := map[string]int{}
	ended := 0
	for seed := range int64(300) {
		l := born(t, seed, counts)
		for _, off := range []uint64{src, dst, length, msi, data} {
			l.write(off, 8, l.word(off))
		}
		if seed%4 == 0 {
			l.write(length, 8, size)
		}
		l.write(control, 8, 1)
		if !l.w.Busy() {
			continue
		}
		ended++
		for range size / 8 {
			l.w.Step()
		}
		if l.w.Busy() {
			t.Errorf("P8.3: it still runs: %x", l.w.registers())
		}
	}
	if ended < 150 {
		t.Errorf("only %d have run", ended)
	}
}
