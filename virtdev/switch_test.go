package virtdev_test

import (
	"bytes"
	"fmt"
	"math"
	"math/rand"
	"slices"
	"testing"

	"citadel/api"
	"citadel/virtdev"
)

// addr is the address of a card.
func addr(first byte, n int) [6]byte {
	return [6]byte{first, byte(n >> 8), 0, 0, 0, byte(n)}
}

// sent is a frame of n bytes from one to another.
func sent(n int, to, from [6]byte) []byte {
	b := slices.Concat(to[:], from[:], []byte{8, 0, 1, 2, 3, 4})
	for len(b) < n {
		b = append(b, byte(len(b)))
	}
	return b[:n]
}

// newSwitch is a switch.
func newSwitch(t *testing.T, ports int) *virtdev.Switch {
	t.Helper()
	s, e := virtdev.NewSwitch(ports)
	if e != api.OK || s == nil || s.Learned() != 0 {
		t.Fatalf("P14.5: NewSwitch(%d) = %v, %d", ports, s, e)
	}
	return s
}

// others are all ports but one.
func others(ports, port int) []int {
	list := []int{}
	for p := range ports {
		if p != port {
			list = append(list, p)
		}
	}
	return list
}

// goes fails if a frame goes not to these ports, or the switch does not know so many then.
func goes(t *testing.T, s *virtdev.Switch, port int, frame []byte, known int, want ...int) {
	t.Helper()
	was := bytes.Clone(frame)
	if got := s.Send(port, frame); !slices.Equal(got, want) {
		t.Fatalf("P14.5: Send(%d, %x) = %v, not %v", port, frame, got, want)
	}
	if got := s.Learned(); got != known {
		t.Fatalf("P14.5: Learned = %d, not %d", got, known)
	}
	if !bytes.Equal(was, frame) {
		t.Fatal("R3: Send turned what was handed in")
	}
}

// P14.5: a switch has from 1 to MaxGuests ports.
func TestNewSwitch(t *testing.T) {
	for _, n := range []int{0, -1, api.MaxGuests + 1, api.MaxGuests + 2, 16, 1 << 32, 1<<32 + 1, math.MaxInt, math.MinInt, math.MinInt + 1} {
		if s, e := virtdev.NewSwitch(n); s != nil || e != api.ErrArg {
			t.Errorf("P14.5: NewSwitch(%d) = %v, %d", n, s, e)
		}
	}
	for n := 1; n <= api.MaxGuests; n++ {
		newSwitch(t, n)
	}
}

// P14.5: a frame to nobody who was learned goes to all other ports, rising.
func TestSendToAll(t *testing.T) {
	for n := 1; n <= api.MaxGuests; n++ {
		s := newSwitch(t, n)
		for port := range n {
			for _, to := range [][6]byte{{255, 255, 255, 255, 255, 255}, addr(2, 999), addr(3, 1), {}} {
				goes(t, s, port, sent(60, to, addr(2, port)), port+1, others(n, port)...)
			}
		}
	}
}

// P14.5: there are the ports from 0 on; of others, and of fewer than 14 bytes, nothing is sent, and nothing learned.
func TestSendNone(t *testing.T) {
	for n := 1; n <= api.MaxGuests; n++ {
		s := newSwitch(t, n)
		for _, port := range []int{-1, -2, n, n + 1, api.MaxGuests, api.MaxGuests + 1, 1 << 32, math.MaxInt, math.MinInt} {
			if port != n && port < n+1 && port >= 0 {
				continue
			}
			goes(t, s, port, sent(60, addr(2, 1), addr(2, 2)), 0)
		}
		for size := range 14 {
			goes(t, s, 0, sent(size, addr(2, 1), addr(2, 2)), 0)
		}
		goes(t, s, 0, nil, 0)
		for _, size := range []int{14, 15, 60, 1514, 1515, 9000} {
			goes(t, s, 0, sent(size, addr(2, 9), addr(2, 2)), 1, others(n, 0)...)
		}
	}
}

// P14.5: a frame to one who was learned goes to that port alone, or nowhere, if it is its own.
func TestSendLearned(t *testing.T) {
	s := newSwitch(t, 4)
	goes(t, s, 0, sent(14, addr(2, 9), addr(2, 0)), 1, 1, 2, 3)
	goes(t, s, 1, sent(14, addr(2, 0), addr(2, 1)), 2, 0)
	goes(t, s, 3, sent(14, addr(2, 1), addr(2, 3)), 3, 1)
	goes(t, s, 3, sent(14, addr(2, 0), addr(2, 3)), 3, 0)
	goes(t, s, 0, sent(14, addr(2, 3), addr(2, 0)), 3, 3)
	goes(t, s, 0, sent(14, addr(2, 2), addr(2, 0)), 3, 1, 2, 3)
	goes(t, s, 0, sent(14, addr(2, 0), addr(2, 0)), 3)          // to itself
	goes(t, s, 0, sent(14, addr(2, 0), addr(2, 4)), 4)          // to another at its port
	goes(t, s, 2, sent(14, addr(2, 4), addr(2, 4)), 4)          // it has moved, and stands at this one now
	goes(t, s, 0, sent(14, addr(2, 4), addr(2, 0)), 4, 2)       // there it is
	goes(t, s, 1, sent(14, addr(2, 7), addr(2, 7)), 5)          // nobody knew it ahead of this
	goes(t, s, 1, sent(14, addr(2, 8), addr(2, 7)), 5, 0, 2, 3) // and this one nobody knows
}

// P14.5: each byte of an address counts, and no byte beside them does.
func TestSendEachByte(t *testing.T) {
	for i := range 6 {
		s := newSwitch(t, 3)
		known := [6]byte{2, 2, 2, 2, 2, 2}
		goes(t, s, 0, sent(20, addr(4, 1), known), 1, 1, 2)
		other := known
		other[i] ^= 0x80
		goes(t, s, 1, sent(20, other, addr(2, 1)), 2, 0, 2)
		goes(t, s, 1, sent(20, known, addr(2, 1)), 2, 0)
		other[i] ^= 0xc0
		goes(t, s, 2, sent(20, known, other), 3, 0)
		for j := 12; j < 20; j++ {
			b := sent(20, known, addr(2, 1))
			b[j] ^= 0xff
			goes(t, s, 1, b, 3, 0)
		}
	}
}

// P14.5: a sender whose first byte is odd is not learned; a frame from it goes as any other.
func TestSendOdd(t *testing.T) {
	s := newSwitch(t, 3)
	for first := range 256 {
		from := addr(byte(first), 5)
		known := first/2 + 1
		goes(t, s, first%3, sent(14, addr(255, 1), from), known, others(3, first%3)...)
		if first%2 == 1 {
			goes(t, s, (first+1)%3, sent(14, from, from), known, others(3, (first+1)%3)...)
		}
		if known == 32 {
			break
		}
	}
}

// P14.5: 32 are learned, and no new one then; those that were learned may still move.
func TestSendFull(t *testing.T) {
	s := newSwitch(t, 3)
	for i := range 32 {
		goes(t, s, i%3, sent(14, addr(2, 999), addr(2, i)), i+1, others(3, i%3)...)
	}
	for i := 32; i < 40; i++ {
		goes(t, s, 0, sent(14, addr(2, 999), addr(2, i)), 32, 1, 2)
		goes(t, s, 1, sent(14, addr(2, i), addr(2, 1)), 32, 0, 2)
		goes(t, s, 0, sent(14, addr(2, i), addr(2, i)), 32, 1, 2) // not even to itself
		goes(t, s, 0, sent(14, addr(2, 1), addr(2, i)), 32, 1)
	}
	for i := range 32 {
		goes(t, s, (i+1)%3, sent(14, addr(2, 999), addr(2, i)), 32, others(3, (i+1)%3)...)
		goes(t, s, i%3, sent(14, addr(2, i), addr(2, 888)), 32, (i+1)%3)
	}
}

// R3, R4: what Send answers is new memory; switches have nothing in common.
func TestSendApart(t *testing.T) {
	a, b := newSwitch(t, 4), newSwitch(t, 4)
	f := sent(14, addr(2, 1), addr(2, 2))
	for range 3 {
		list := a.Send(1, f)
		if !slices.Equal(list, []int{0, 2, 3}) {
			t.Fatalf("P14.5: %v", list)
		}
		clear(list[:cap(list)])
	}
	clear(f)
	goes(t, a, 0, sent(14, addr(2, 2), addr(2, 3)), 2, 1)
	goes(t, b, 0, sent(14, addr(2, 2), addr(2, 3)), 1, 1, 2, 3)
}

// P14.5, P14.6: lives of switches are as the chapter says, and a frame goes to no port of its own.
func TestSwitchLives(t *testing.T) {
	for seed := range int64(300) {
		r := rand.New(rand.NewSource(seed))
		ports := 1 + r.Intn(api.MaxGuests)
		s := newSwitch(t, ports)
		type row struct {
			addr string
			port int
		}
		var table []row
		find := func(a string) int { return slices.IndexFunc(table, func(x row) bool { return x.addr == a }) }
		cards := some(r, 3, 20, 32, 33, 60)
		for range 200 {
			port, n := r.Intn(ports+2)-1, some(r, 13, 14, 15, 60, 1514)
			f := sent(n, addr(byte(r.Intn(5)), r.Intn(cards)), addr(byte(2*r.Intn(3)), r.Intn(cards)))
			if r.Intn(20) == 0 {
				f[6] |= 1
			}
			want := []int{}
			if port >= 0 && port < ports && n >= 14 {
				to, from := fmt.Sprint(f[:6]), fmt.Sprint(f[6:12])
				if at := find(from); at >= 0 {
					table[at].port = port
				} else if f[6]%2 == 0 && len(table) < 32 {
					table = append(table, row{from, port})
				}
				if at := find(to); at < 0 {
					want = others(ports, port)
				} else if table[at].port != port {
					want = append(want, table[at].port)
				}
			}
			goes(t, s, port, f, len(table), want...)
			if slices.Contains(want, port) {
				t.Fatal("P14.6: a frame goes to its own port")
			}
		}
	}
}
