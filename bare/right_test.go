package bare_test

import (
	"bytes"
	"math"
	"slices"
	"testing"

	"citadel/api"
	"citadel/bare"
)

// sets are devices that a board may have, and some that it may not.
var sets = [][]int{nil, {}, {1}, {2}, {3}, {8}, {8, 3, 2, 1}, {1, 2, 3, 8}, {2, 8}, {0}, {4}, {-1}, {9}, {1, 1}, {8, 2, 8}, {1, 2, 3, 8, 1}, {1, 2, 3, 8, 1, 2, 3, 8}, {1, 2, 3, 8, 1, 2, 3, 8, 1}}

// refused fails if a conf is not refused.
func refused(t *testing.T, c api.GuestConf) {
	t.Helper()
	if m, e := bare.New(c); m != nil || e != api.ErrArg {
		t.Errorf("P19.1: New(%d, %d, %d bytes, %v, %d bytes) = %v, %d", c.Vcpus, c.Pages, len(c.Image), c.Devs, len(c.Disk), m, e)
	}
	if bare.Right(c) {
		t.Errorf("P19.1: Right(%d, %d, %d bytes, %v, %d bytes)", c.Vcpus, c.Pages, len(c.Image), c.Devs, len(c.Disk))
	}
}

// taken fails if a conf is not taken.
func taken(t *testing.T, c api.GuestConf) *bare.Machine {
	t.Helper()
	m, e := bare.New(c)
	if m == nil || e != api.OK || !bare.Right(c) {
		t.Fatalf("P19.1: New(%d, %d, %d bytes, %v, %d bytes) = %v, %d", c.Vcpus, c.Pages, len(c.Image), c.Devs, len(c.Disk), m, e)
	}
	return m
}

// P19.1: Vcpus is from 1 to MaxVcpus, Pages from 1 to MaxRAM.
func TestRightNumbers(t *testing.T) {
	numbers := []int{math.MinInt, math.MinInt + 1, -1 << 52, -1 << 32, -64, -1, 0, 1, 2, 3, 63, 64, 65, 66, 127, 128, 255, 256, 1 << 32, 1<<32 + 1, 1 << 51, 1 << 52, 1<<52 + 1, math.MaxInt - 1, math.MaxInt}
	for _, vcpus := range numbers {
		for _, pages := range numbers {
			c := api.GuestConf{Vcpus: vcpus, Pages: pages}
			if vcpus >= 1 && vcpus <= 64 && pages >= 1 && pages <= 64 {
				taken(t, c)
				continue
			}
			refused(t, c)
			c.Image = make([]byte, 1)
			refused(t, c)
		}
	}
}

// P19.1: Image has at most Pages * PageSize bytes, all of which stand in memory.
func TestRightImage(t *testing.T) {
	for _, pages := range []int{1, 2, 3, 63, 64} {
		for _, n := range []int{0, 1, 2, 4095, 4096, 4097, pages*4096 - 1, pages * 4096, pages*4096 + 1, pages*4096 + 4096, 64*4096 + 1} {
			c := api.GuestConf{Vcpus: 1, Pages: pages, Image: pattern(n, pages)}
			if n > pages*4096 {
				refused(t, c)
				continue
			}
			m := taken(t, c)
			all := append(slices.Clone(c.Image), make([]byte, pages*4096-n)...)
			for i := range pages {
				if !bytes.Equal(m.Memory(i), all[i*4096:(i+1)*4096]) {
					t.Errorf("P19.1: page %d of %d is not the Image's, of %d bytes", i, pages, n)
				}
			}
		}
	}
}

// P19.1: the devices and the disk are those that a board may have.
func TestRightBoard(t *testing.T) {
	count := 0
	for _, devs := range sets {
		for _, n := range []int{0, 1, 511, 512, 513, 1024, 64*512 - 512, 64 * 512, 64*512 + 1, 65 * 512} {
			c := api.GuestConf{Vcpus: 2, Pages: 1, Devs: devs, Disk: pattern(n, 1)}
			if !right(c) {
				refused(t, c)
				continue
			}
			count++
			m := taken(t, c)
			if !bytes.Equal(m.See().Disk, c.Disk) {
				t.Errorf("P19.3: a disk of %d bytes is told as one of %d", n, len(m.See().Disk))
			}
		}
	}
	if count != 5+4*5 {
		t.Errorf("%d may be", count)
	}
}

// P19.1: Weight and Gang are not looked at.
func TestRightAnyWeight(t *testing.T) {
	for _, weight := range []int{math.MinInt, -1, 0, 1, 1000, 1001, math.MaxInt} {
		for _, gang := range []bool{false, true} {
			c := api.GuestConf{Vcpus: 9, Pages: 1, Weight: weight, Gang: gang}
			taken(t, c)
			c.Pages = 0
			refused(t, c)
		}
	}
}

// P19.1: a machine at its beginning: number 0 runs from RamBase on, all others are stopped, the time is 0, it is not
// down, nothing was sent.
func TestBeginning(t *testing.T) {
	for _, vcpus := range []int{1, 2, 3, 64} {
		for _, devs := range [][]int{nil, {2}, {8, 3, 2, 1}} {
			c := api.GuestConf{Vcpus: vcpus, Pages: 2, Devs: devs, Image: image(one(nop))}
			if slices.Contains(devs, api.DevBlk) {
				c.Disk = pattern(1024, 3)
			}
			p := newPair(t, c)
			want := api.Sight{Vcpus: make([]api.Vcpu, vcpus), Disk: c.Disk}
			want.Vcpus[0] = api.Vcpu{State: api.Running, Hart: api.Hart{PC: base}}
			sameSight(t, "P19.1", p.m.See(), want)
			if len(p.take()) != 0 {
				t.Error("P19.1: a frame was sent")
			}
			for v := range vcpus {
				want := api.Event{Kind: -1}
				if v == 0 {
					want = api.Event{}
				}
				if got := p.m.Peek(v); got != want {
					t.Errorf("P19.1: Peek(%d) = %+v", v, got)
				}
			}
		}
	}
}

// The chapter's section 'Examples'.
func TestExample(t *testing.T) {
	p := newPair(t, api.GuestConf{Vcpus: 1, Pages: 1, Image: []byte{0x37, 0x05, 0x00, 0x10, 0x93, 0x05, 0x10, 0x04, 0x23, 0x00, 0xb5, 0x00}})
	p.steps(0, 2)
	if ev := p.m.Peek(0); ev != (api.Event{Kind: api.ExitFault, Access: api.Store, VA: 0x10000000, GPA: 0x10000000}) {
		t.Errorf("P19.2: Peek = %+v", ev)
	}
	p.steps(0, 1)
	if s := p.m.See(); string(s.Uart) != "A" || s.Vcpus[0].Hart.PC != base+12 {
		t.Errorf("P19.2: %q, %#x", s.Uart, s.Vcpus[0].Hart.PC)
	}
}
