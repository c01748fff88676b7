package bare_test

import (
	"bytes"
	"slices"
	"testing"

	"citadel/api"
	"citadel/bare"
)

// sends lays into a page at an address a queue's chains, each of which has these bytes to read.
func sends(b []byte, at int, chains ...[]byte) []byte {
	data := 0x400
	for i, c := range chains {
		b = lay(b, at+16*i, 8, base+uint64(at+data))
		b = lay(b, at+16*i+8, 8, uint64(len(c)))
		b = lay(b, at+256+4+2*i, 2, uint64(i))
		b = place(b, at+data, c)
		data += len(c)
	}
	return lay(b, at+256+2, 2, uint64(len(chains)))
}

// newSender is a machine that has sent: by its UART "uart", by its console "console", and two frames.
func newSender(t *testing.T, pages int) *pair {
	t.Helper()
	list := join(
		poke(api.UartBase, 1, 'u'), ecall(puts, 0, 'a', 0, 0), poke(api.UartBase, 1, 'r'), poke(api.UartBase, 1, 't'),
		finds(3), begins(0, 1, base+pageSize), poke(bar(0)+noticeReg, 4, 1), begins(2, 1, base+2*pageSize), poke(bar(2)+noticeReg, 4, 1))
	b := sends(image(list), pageSize, []byte("con"), []byte("sole"))
	b = sends(b, 2*pageSize, append(make([]byte, 12), frames[0]...), append(make([]byte, 12), frames[1]...))
	p := newPair(t, api.GuestConf{Vcpus: 3, Pages: pages, Devs: []int{api.DevConsole, api.DevBlk, api.DevNet}, Disk: pattern(1024, 7), Image: b})
	p.runs(list)
	return p
}

// frames are those that a sender sends.
var frames = [][]byte{pattern(14, 1), pattern(100, 2)}

// P19.3: See tells what was sent, the disk, the time, and the virtual harts.
func TestSee(t *testing.T) {
	p := newSender(t, 3)
	p.ticks(4)
	if s := p.m.See(); string(s.Uart) != "uart" || string(s.Console) != "console" || !bytes.Equal(s.Disk, pattern(1024, 7)) || s.Now != 4 || s.Down || len(s.Vcpus) != 3 {
		t.Errorf("P19.3: %+v", s)
	}
}

// P19.3: Take tells the frames that the card has sent and that were not taken yet.
func TestTake(t *testing.T) {
	p := newSender(t, 3)
	if got := p.m.Take(); !slices.EqualFunc(got, frames, bytes.Equal) {
		t.Errorf("P19.3: Take = %v", got)
	}
	if got := p.m.Take(); len(got) != 0 {
		t.Errorf("P19.3: Take = %v, a second time", got)
	}
	if got := newPair(t, api.GuestConf{Vcpus: 1, Pages: 1}).m.Take(); len(got) != 0 {
		t.Errorf("P19.3: without a card, Take = %v", got)
	}
}

// P19.3: a page's bytes are those of that page; of no page there are none.
func TestMemory(t *testing.T) {
	for _, pages := range []int{1, 2, 64} {
		all := pattern(pages*pageSize-5, pages)
		m := taken(t, api.GuestConf{Vcpus: 1, Pages: pages, Image: all})
		all = append(all, 0, 0, 0, 0, 0)
		for i := range pages {
			if !bytes.Equal(m.Memory(i), all[i*pageSize:(i+1)*pageSize]) {
				t.Errorf("P19.3: page %d of %d", i, pages)
			}
		}
		for _, page := range append(slices.Clone(none), pages, pages+1, base/pageSize, -base/pageSize, 1<<52-base/pageSize, 1<<52-base/pageSize+pages) {
			if got := m.Memory(page); len(got) != 0 {
				t.Errorf("P19.3: page %d of %d has %d bytes", page, pages, len(got))
			}
		}
	}
}

// P19.3, R3: lists that are told are new memory, spare room too, and share none.
func TestTellsNewMemory(t *testing.T) {
	p := newSender(t, 3)
	want := p.m.See()
	s := p.m.See()
	vcpus := s.Vcpus[:cap(s.Vcpus)]
	for i := range vcpus {
		vcpus[i] = api.Vcpu{State: 9}
	}
	lists := [][]byte{s.Uart, s.Console, s.Disk, p.m.Memory(0), p.m.Memory(1), p.m.Memory(0), p.m.Memory(2)}
	for _, b := range append(lists, p.m.Take()...) {
		spoil(b[:cap(b)])
	}
	sameSight(t, "R3", p.m.See(), want)
	p.same()
	p.in(0, []byte("x"))
	p.steps(0, 1)
	p.steps(1, 1)
}

// P19.2: what the next LabelStep comes to is told as often as somebody asks, and turns nothing: neither what is seen,
// nor the memory, nor what comes next.
func TestPeekTurnsNothing(t *testing.T) {
	list := join(csrw(sie, 0x20), ecall(timer, 0, 1, 0, 0), poke(base+0x800, 8, 5), peek(7, api.UartBase, 1, false), one(wfi), one(nop))
	p := newPair(t, api.GuestConf{Vcpus: 2, Pages: 1, Image: image(list)})
	p.in(0, []byte("zy"))
	for range len(list) {
		was, memory := p.m.See(), p.m.Memory(0)
		first := p.m.Peek(0)
		for range 3 {
			if got := p.m.Peek(0); got != first {
				t.Errorf("P19.2: Peek = %+v, and then %+v", first, got)
			}
		}
		sameSight(t, "P19.2", p.m.See(), was)
		if !bytes.Equal(memory, p.m.Memory(0)) {
			t.Error("P19.2: Peek has turned the memory")
		}
		p.steps(0, 1)
	}
	p.ticks(1)
	if p.vcpu(0).State != api.Waiting || p.hart(0).X[7] != 'z' || p.m.Peek(0) != (api.Event{}) || p.vcpu(0).State != api.Waiting || p.hart(0).Sip != 0 {
		t.Errorf("P19.2: %+v", p.vcpu(0))
	}
}

// R4: two machines have nothing in common, of one conf either.
func TestApart(t *testing.T) {
	p := newSender(t, 3)
	list := join(poke(base+0x1800, 8, ones), poke(api.UartBase, 1, 'o'))
	c := api.GuestConf{Vcpus: 1, Pages: 3, Devs: []int{api.DevBlk}, Disk: pattern(512, 1), Image: image(list)}
	one, two := taken(t, c), taken(t, c)
	was := two.See()
	for range len(list) {
		one.Do(api.Label{Kind: api.LabelStep})
	}
	one.Do(api.Label{Kind: api.LabelTick})
	sameSight(t, "R4", two.See(), was)
	if !bytes.Equal(two.Memory(0), append(slices.Clone(c.Image), make([]byte, pageSize-len(c.Image))...)) || !bytes.Equal(two.Memory(1), make([]byte, pageSize)) || one.Memory(1)[0x800] != 0xff {
		t.Error("R4: the memory of another machine is turned")
	}
	p.same()
	var none *bare.Machine
	if m, _ := bare.New(api.GuestConf{}); m != none {
		t.Error("P19.1: a machine of nothing")
	}
}
