package virtdev_test

import (
	"bytes"
	"testing"

	"citadel/api"
)

// P14.3: what is to read is sent, at most PageSize bytes of a chain, split over pieces anywhere.
func TestConsoleOut(t *testing.T) {
	for _, home := range lands {
		p := ready(t, api.DevConsole, nil, home, 64)
		var sent []byte
		for _, n := range []int{0, 1, 2, 100, 4095, 4096, 4097, 5000, 3 * page} {
			for _, cuts := range [][]int{{}, {0}, {1}, {n / 2}, {n - 1}, {4095}, {4096}, {4097}, {2048, 2048}, {2000, 2096, 1}, {1, 1, 1, 1, 1, 1, 0, 0, 1}} {
				b, read := pattern(n, n), split(p.data(0), n, cuts...)
				p.spread(read, b)
				p.fill(p.data(0x5000), pattern(50, 1))
				if got := p.ask(1, read, segs(seg(p.data(0x5000), 50))); got != 0 {
					t.Errorf("P14.3: %d were written", got)
				}
				sent = append(sent, b[:min(n, 4096)]...)
				if !bytes.Equal(p.d.Out(), sent) {
					t.Fatalf("P14.3: %d bytes, cut at %v: %d were sent in all, not %d", n, cuts, len(p.d.Out()), len(sent))
				}
				if !bytes.Equal(p.bytes(p.data(0x5000), 50), pattern(50, 1)) {
					t.Error("P14.3: a console writes what goes out")
				}
			}
		}
		p.is(4, 1)
		if n := p.ask(1, nil, segs(seg(p.data(0x5000), 50))); n != 0 || len(p.d.Out()) != len(sent) {
			t.Errorf("P14.3: %d were written", n)
		}
	}
}

// P14.3: several chains at once go out one behind the other, each at most PageSize of its bytes.
func TestConsoleOutMany(t *testing.T) {
	p := ready(t, api.DevConsole, nil, lands[0], 64)
	var want []byte
	for i := range 8 {
		n := 600 * (i + 1)
		p.fill(p.data(0x2000*i), pattern(n, i))
		p.lay(1, 2*i, segs(seg(p.data(0x2000*i), n-1), seg(p.data(0x2000*i+n-1), 1)), nil)
		p.offer(1, 2*i)
		want = append(want, pattern(n, i)[:min(n, page)]...)
	}
	p.notice(1)
	if got := p.d.Out(); !bytes.Equal(got, want) {
		t.Errorf("P14.6: %d bytes, not %d", len(got), len(want))
	}
	p.same()
}

// P14.4: at most MaxIn bytes wait altogether; what would be more is lost whole.
func TestConsoleInLengths(t *testing.T) {
	for first := range api.MaxIn + 3 {
		for _, second := range []int{0, 1, 2, api.MaxIn - first - 1, api.MaxIn - first, api.MaxIn - first + 1, api.MaxIn, api.MaxIn + 1, 1 << 16} {
			if second < 0 {
				continue
			}
			p := ready(t, api.DevConsole, nil, lands[0], 4)
			var want []byte
			for i, n := range []int{first, second} {
				is := n > 0 && len(want)+n <= api.MaxIn
				if p.in(pattern(n, i)) != is {
					t.Fatalf("P14.4: %d bytes with %d waiting: %v", n, len(want), !is)
				}
				if is {
					want = append(want, pattern(n, i)...)
				}
			}
			p.lay(0, 0, nil, segs(seg(p.data(0), 300)))
			p.offer(0, 0)
			p.notice(0)
			if len(want) == 0 {
				p.gives(0)
				continue
			}
			p.gives(0, given{0, uint64(len(want))})
			if got := p.bytes(p.data(0), len(want)+1); !bytes.Equal(got[:len(want)], want) || got[len(want)] != 0 {
				t.Fatalf("P14.3: %d and %d bytes come in as others", first, second)
			}
			p.is(4, 1)
		}
	}
}

// P14.3: as many of the bytes that wait come in as a chain has room for; the others wait on, in their order.
func TestConsoleInRoom(t *testing.T) {
	for _, home := range lands {
		for _, n := range []int{1, 2, 17, api.MaxIn} {
			for _, room := range []int{0, 1, 2, 3, n - 1, n, n + 1, 100, page} {
				for _, cuts := range [][]int{{}, {0}, {1}, {room / 2}, {1, 0, 0, 1, 5}} {
					p := ready(t, api.DevConsole, nil, home, 8)
					b := pattern(n, room)
					p.in(b)
					write := split(p.data(0x100), room, cuts...)
					p.spread(write, bytes.Repeat([]byte{0}, room))
					p.lay(0, 0, segs(seg(p.data(0), 9)), write)
					var got []byte
					for range 2 {
						left := len(b) - len(got)
						p.offer(0, 0)
						p.notice(0)
						if left == 0 {
							p.gives(0)
							break
						}
						k := min(left, room)
						p.gives(0, given{0, uint64(k)})
						got = append(got, p.gather(write)[:k]...)
						if !bytes.Equal(got, b[:len(got)]) {
							t.Fatalf("P14.3: %d bytes, room for %d, cut at %v: %v", n, room, cuts, got)
						}
						if rest := p.gather(write)[k:]; k < room && !bytes.Equal(rest, make([]byte, len(rest))) && left == len(b) {
							t.Fatalf("P14.3: %d bytes, room for %d: more is written", n, room)
						}
					}
					p.is(4, 1)
				}
			}
		}
	}
}

// P14.3: the bytes that wait go over several chains at once, and what comes in then goes behind them.
func TestConsoleInMany(t *testing.T) {
	p := ready(t, api.DevConsole, nil, lands[0], 8)
	p.in(pattern(40, 1))
	for i := range 4 {
		p.lay(0, i, nil, segs(seg(p.data(0x100*i), 15)))
		p.offer(0, i)
	}
	p.in([]byte{7, 8, 9})
	p.gives(0, given{0, 15}, given{1, 15}, given{2, 13})
	all := append(pattern(40, 1), 7, 8, 9)
	for i := range 3 {
		if n := min(15, len(all)-15*i); !bytes.Equal(p.bytes(p.data(0x100*i), n), all[15*i:][:n]) {
			t.Errorf("P14.6: chain %d", i)
		}
	}
	p.notice(0)
	p.gives(0)
	p.in([]byte{1})
	p.gives(0, given{3, 1})
	p.is(4, 1)
}
