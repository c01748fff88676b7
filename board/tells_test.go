package board_test

import (
	"bytes"
	"slices"
	"testing"

	"citadel/api"
)

// spoil turns all of a list that was answered, its spare room too.
func spoil(b []byte) {
	b = b[:cap(b)]
	for i := range b {
		b[i] ^= 0xff
	}
}

// P16.4: Console tells all that the console has sent, and nothing without one; the UART's bytes are not among them.
func TestConsole(t *testing.T) {
	for i, devs := range orders(kinds) {
		p := found(t, devs, lands[i%len(lands)])
		slot := p.slot(api.DevConsole)
		p.put('u')
		p.in(0, []byte("in"))
		if slot < 0 {
			if len(p.b.Console()) != 0 {
				t.Errorf("P16.4: %v: Console = %q", devs, p.b.Console())
			}
			continue
		}
		p.begin(slot)
		var want []byte
		for n := range 5 {
			p.offer(slot, 1, pattern(10*n, n), 1)
			p.notice(slot, 1)
			want = append(want, pattern(10*n, n)...)
			if got := p.b.Console(); !bytes.Equal(got, want) {
				t.Errorf("P16.4: Console = %v, not %v", got, want)
			}
		}
		p.set(bar(slot)+statusReg, 0)
		spoil(p.b.Console())
		p.same()
	}
}

// P16.4: Disk tells the disk's bytes, as the guest last wrote them, and nothing without one.
func TestDisk(t *testing.T) {
	for i, devs := range orders(kinds) {
		p := found(t, devs, lands[i%len(lands)])
		slot := p.slot(api.DevBlk)
		if slot < 0 {
			if len(p.b.Disk()) != 0 {
				t.Errorf("P16.4: %v: %d bytes of a disk", devs, len(p.b.Disk()))
			}
			continue
		}
		p.reads(bar(slot)+0x100, 4, 2)
		p.begin(slot)
		p.offer(slot, 0, append([]byte{0: 1, 8: 1, 15: 0}, pattern(sector, 77)...), 1)
		p.notice(slot, 0)
		want := append(pattern(2*sector, 2)[:sector:sector], pattern(sector, 77)...)
		if got := p.b.Disk(); !bytes.Equal(got, want) {
			t.Errorf("P16.4: the disk is not as it was written")
		}
		spoil(p.b.Disk())
		p.same()
	}
}

// P16.4: Take takes the frames that the card has sent, in order, each once, and nothing without one.
func TestTake(t *testing.T) {
	for i, devs := range orders(kinds) {
		p := found(t, devs, lands[i%len(lands)])
		slot := p.slot(api.DevNet)
		if slot < 0 {
			if len(p.take()) != 0 {
				t.Errorf("P16.4: %v: frames", devs)
			}
			continue
		}
		p.begin(slot)
		for round := range 3 {
			var want [][]byte
			for n := range round + 1 {
				f := pattern(20+n, round)
				p.offer(slot, 1, append(make([]byte, 12), f...), 1)
				p.notice(slot, 1)
				want = append(want, f)
			}
			got := p.take()
			if !slices.EqualFunc(got, want, bytes.Equal) {
				t.Errorf("P16.4: Take = %v, not %v", got, want)
			}
			for _, f := range got {
				spoil(f)
			}
			if len(p.take()) != 0 {
				t.Error("P16.4: frames are taken twice")
			}
			p.same()
		}
	}
}

// P16.4: Uart tells all that the UART has sent; what is done to an answer is done to that alone.
func TestUartTells(t *testing.T) {
	p := newPair(t, 1, []int{3}, nil, lands[0])
	for i := range 100 {
		if i%2 == 0 {
			p.put(byte(i))
		} else {
			p.write(uartData, 1, uint64(i))
		}
		spoil(p.b.Uart())
		if got := p.b.Uart(); !bytes.Equal(got, p.c.uartSent()) {
			t.Fatalf("P16.4: Uart = %v", got)
		}
	}
}
