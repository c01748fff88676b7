package plat_test

import (
	"bytes"
	"math/rand"
	"testing"

	"citadel/plat"
)

// some is one of these.
func some[T any](r *rand.Rand, list ...T) T { return list[r.Intn(len(list))] }

// anyCall is a call of a UART, mostly one that there is, with bytes that come in runs.
func anyCall(r *rand.Rand) call {
	off := uint64(r.Intn(8))
	switch r.Intn(20) {
	case 0:
		off = some(r, noOffsets...)
	case 1, 2, 3, 4, 5:
		off = 0
	}
	switch n := r.Intn(100); {
	case n < 40:
		return call{'R', off, 0}
	case n < 60:
		return call{'I', 0, byte(r.Intn(256))}
	case off == 3:
		return call{'W', off, some(r, 0, 0, 0, 3, 0x7f, 0x80, byte(r.Intn(256)))}
	}
	return call{'W', off, byte(r.Intn(256))}
}

// P11.1: lives of UARTs are as the chapter says.
func TestUartLives(t *testing.T) {
	lost, taken, causes := 0, 0, map[byte]int{}
	for seed := range int64(400) {
		r := rand.New(rand.NewSource(seed))
		p := newPair(t)
		for range 300 {
			p.do(anyCall(r))
			if r.Intn(30) == 0 {
				for range r.Intn(20) {
					p.in(byte(r.Intn(256)))
				}
			}
			if r.Intn(4) == 0 {
				p.write(3, 0)
			}
			p.same()
			causes[p.c.cause()]++
			if p.c.overrun {
				lost++
			}
			if len(p.c.queue) > 0 {
				taken++
			}
		}
		p.reveal()
	}
	if lost < 1000 || taken < 1000 {
		t.Errorf("only %d times a loss, and %d a byte", lost, taken)
	}
	for _, cause := range []byte{1, 2, 4, 6} {
		if causes[cause] < 1000 {
			t.Errorf("the cause %d came only %d times", cause, causes[cause])
		}
	}
}

// P11.5: bytes come out in the order in which they came in, none twice; what is sent is told as it was written.
func TestUartOrder(t *testing.T) {
	for seed := range int64(200) {
		r := rand.New(rand.NewSource(seed))
		u := plat.NewUart()
		var waiting, sent []byte
		next := byte(0)
		for range 500 {
			switch r.Intn(7) {
			case 0, 1, 2:
				next++
				u.In(next)
				if len(waiting) < 16 {
					waiting = append(waiting, next)
				}
			case 3, 4:
				want := byte(0)
				if len(waiting) > 0 {
					want, waiting = waiting[0], waiting[1:]
				}
				if got := u.Read(0); got != want {
					t.Fatalf("P11.5: %d comes out, not %d", got, want)
				}
			case 5:
				v := byte(r.Intn(256))
				u.Write(0, v)
				sent = append(sent, v)
			case 6:
				if got := u.Read(5)&1 == 1; got != (len(waiting) > 0) {
					t.Fatalf("P11.5: a byte waits: %v", got)
				}
			}
		}
		if !bytes.Equal(u.Out(), sent) {
			t.Fatalf("P11.5: Out = %x, not %x", u.Out(), sent)
		}
	}
}
