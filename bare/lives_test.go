package bare_test

import (
	"math/rand"
	"slices"
	"testing"

	"citadel/api"
	"citadel/bare"
)

// life is a pair whose guest, and what happens to it, are by chance. The same happens to a quiet machine, of which
// nobody asks anything, and to which labels are not told that do nothing.
type life struct {
	*pair
	r     *rand.Rand
	quiet *bare.Machine
	count map[string]int
}

// newLife is one of a seed.
func newLife(t *testing.T, seed int64) *life {
	t.Helper()
	r := rand.New(rand.NewSource(seed))
	c := api.GuestConf{Vcpus: 1 + r.Intn(3), Pages: 3, Devs: []int{api.DevEngine, api.DevNet, api.DevConsole, api.DevBlk}}
	r.Shuffle(4, func(i, j int) { c.Devs[i], c.Devs[j] = c.Devs[j], c.Devs[i] })
	c.Devs = c.Devs[:some(r, 1, 2, 3, 4, 4)]
	if slices.Contains(c.Devs, api.DevBlk) {
		c.Disk = pattern(sector*r.Intn(4), 5)
	}
	c.Image = guestImage(r, c.Vcpus)
	return &life{newPair(t, c), r, taken(t, c), map[string]int{}}
}

// label is one by chance.
func (l *life) label() api.Label {
	switch x := l.r.Intn(1000); {
	case x < 860:
		return api.Label{Kind: api.LabelStep, N: l.r.Intn(len(l.c.vs))}
	case x < 870:
		return api.Label{Kind: api.LabelStep, N: some(l.r, append(none, len(l.c.vs))...)}
	case x < 920:
		return api.Label{Kind: api.LabelTick, N: l.r.Intn(3)}
	case x < 950:
		port := some(l.r, 0, 0, 1, 2, 3, 4, 5, some(l.r, none...))
		return api.Label{Kind: api.LabelInput, N: port, Bytes: pattern(some(l.r, 0, 1, 2, 14, 60, 1600), l.r.Intn(50))}
	case x < 990:
		return api.Label{Kind: api.LabelDma}
	case x < 998:
		return api.Label{Kind: some(l.r, noKinds...), N: l.r.Intn(3), Bytes: []byte("none")}
	}
	if l.r.Intn(6) > 0 {
		return api.Label{Kind: api.LabelTick}
	}
	return api.Label{Kind: api.LabelUnplug}
}

// idle tells whether a label does nothing, as far as that is said of steps and of kinds that are none.
func (l *life) idle(x api.Label) bool {
	switch x.Kind {
	case api.LabelStep:
		if !l.c.has(x.N) {
			return true
		}
		v := l.c.readied(x.N)
		return v == l.c.vs[x.N] && v.State != api.Running
	case api.LabelTick, api.LabelInput, api.LabelDma, api.LabelUnplug:
		return false
	}
	return true
}

// anything is a label by chance, told to all three.
func (l *life) anything() {
	l.t.Helper()
	x := l.label()
	if l.idle(x) {
		l.count["left out"]++
	} else {
		l.quiet.Do(api.Label{Kind: x.Kind, N: x.N, Bytes: slices.Clone(x.Bytes)})
	}
	was, ev := l.m.See(), api.Event{Kind: -1}
	if x.Kind == api.LabelStep {
		ev = l.m.Peek(x.N)
	}
	l.do(x)
	l.tallies(x, ev, was)
}

// tallies counts what a label has come to, and fails if it has turned another virtual hart than it may.
func (l *life) tallies(x api.Label, ev api.Event, was api.Sight) {
	l.t.Helper()
	is := l.m.See()
	for i := range is.Vcpus {
		if x.Kind == api.LabelStep && i == x.N || ev.Kind == api.ExitCall {
			continue
		}
		if got, before := is.Vcpus[i], was.Vcpus[i]; got != before {
			before.Hart.Reserved = false
			if got != before || !ev.Wrote {
				l.t.Fatalf("P19.4: a label of kind %d, number %d turned number %d: %s", x.Kind, x.N, i, unlike(got, was.Vcpus[i]))
			}
			l.count["reservation lost"]++
		}
	}
	if x.Kind > api.LabelStep && x.Kind <= api.LabelUnplug {
		l.count[[]string{"tick", "input", "dma", "unplugged"}[x.Kind-api.LabelTick]]++
	}
	if ev.Kind < 0 {
		return
	}
	h := is.Vcpus[x.N].Hart
	l.count[[]string{"retired", "trapped", "taken", "fault", "call", "wait"}[ev.Kind]]++
	if was.Vcpus[x.N].State == api.Waiting {
		l.count["woken"]++
	}
	if is.Down {
		l.count["down"]++
	}
	if ev.Kind == api.ExitFault {
		what := []string{"", "fetch", "load", "store"}[ev.Access]
		if h.PC-was.Vcpus[x.N].Hart.PC <= 4 {
			l.count["emulated "+what]++
			if ev.VA != ev.GPA {
				l.count["by own tables"]++
			}
			if h.PC-was.Vcpus[x.N].Hart.PC == 2 {
				l.count["compressed"]++
			}
		} else {
			l.count["refused "+what]++
			if ev.Walk {
				l.count["walk"]++
			}
		}
	}
	if len(is.Uart) > len(was.Uart) {
		l.count["sent"]++
	}
}

// P19.2, P19.3: in lives by chance a machine comes to what the chapter says, label by label. P19.4: one that is asked
// nothing, and told only what does something, comes to the same.
func TestLives(t *testing.T) {
	count := map[string]int{}
	for seed := range int64(40) {
		l := newLife(t, seed)
		for range 3000 {
			l.anything()
			if l.r.Intn(50) == 0 {
				l.count["frames"] += len(l.take())
				l.quiet.Take()
			}
		}
		sameSight(t, "P19.4", l.quiet.See(), l.m.See())
		for i := range l.pages {
			if !slices.Equal(l.quiet.Memory(i), l.m.Memory(i)) {
				t.Fatalf("P19.4: page %d is another one", i)
			}
		}
		for v := range l.c.vs {
			if l.quiet.Peek(v) != l.m.Peek(v) {
				t.Fatalf("P19.4: number %d goes on as another one", v)
			}
		}
		for k, n := range l.count {
			count[k] += n
		}
	}
	for what, least := range map[string]int{
		"retired": 1000, "trapped": 100, "taken": 50, "call": 100, "wait": 20, "woken": 10, "down": 1, "emulated load": 300, "emulated store": 300,
		"refused load": 100, "refused store": 100, "refused fetch": 10, "walk": 5, "by own tables": 5, "compressed": 20, "reservation lost": 5, "sent": 20,
		"tick": 1000, "input": 500, "dma": 500, "unplugged": 3, "left out": 1000,
	} {
		if count[what] < least {
			t.Errorf("%s: only %d", what, count[what])
		}
	}
}
