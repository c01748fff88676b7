package sched_test

import (
	"math/big"

	"citadel/api"
)

// may tells whether a conf may be, by numbers that have no bounds.
func may(c api.SchedConf) bool {
	in := func(n, most int) bool { return 1 <= n && n <= most }
	ok := in(c.Harts, 8) && in(c.Slice, 1000) && in(c.Period, 10000) && in(len(c.Guests), 8)
	vcpus, weights := new(big.Int), new(big.Int)
	for _, g := range c.Guests {
		ok = ok && g.Vcpus >= 1 && in(g.Weight, 1000)
		vcpus.Add(vcpus, big.NewInt(int64(g.Vcpus)))
		if g.Gang {
			ok = ok && g.Vcpus <= c.Harts
			weights.Add(weights, big.NewInt(int64(g.Weight)))
		}
	}
	return ok && vcpus.Cmp(big.NewInt(64)) <= 0 && weights.Cmp(big.NewInt(int64(c.Period))) < 0
}

// line is a hart's queue by credit.
type line struct {
	queue []int
	has   bool // a current one
	it    int
	used  int
}

// turns are those of a hart that is partitioned, counted tick by tick.
type turns struct {
	of       []int
	it, used int
}

// chapter is the chapter read out: periods and shared ticks are counted one by one.
type chapter struct {
	c                    api.SchedConf
	guest, index, home   []int
	slot                 []int // of each tick of a period whose it is, -1 where it is shared
	at, now              int   // ticks of this period, and of all time, that lie behind
	q                    int   // how many are shared in a period
	gone                 map[int]bool
	charged, ran         map[int]int
	credit, part         map[int]int
	turns                []turns
	lines                []line
	lost, over, robbed   int // how often a credit was cut below, and above, and how often the current one lost its turn to one with credit
	went, stayed, turned int // how often a current one went to the end, or went on without credit, and how often its slice was over
}

// reads begins the chapter.
func reads(c api.SchedConf) *chapter {
	x := &chapter{c: c, gone: map[int]bool{}, charged: map[int]int{}, ran: map[int]int{}, credit: map[int]int{}, part: map[int]int{}}
	x.turns, x.lines = make([]turns, c.Harts), make([]line, c.Harts)
	for g, conf := range c.Guests {
		for i := 0; i < conf.Vcpus; i++ {
			e := len(x.home)
			x.guest, x.index = append(x.guest, g), append(x.index, i)
			if conf.Gang {
				x.home = append(x.home, i)
				continue
			}
			home := e - e/c.Harts*c.Harts
			x.home = append(x.home, home)
			x.turns[home].of = append(x.turns[home].of, e)
			x.lines[home].queue = append(x.lines[home].queue, e)
		}
		for i := 0; conf.Gang && i < conf.Weight; i++ {
			x.slot = append(x.slot, g)
		}
	}
	x.q = c.Period - len(x.slot)
	for len(x.slot) < c.Period {
		x.slot = append(x.slot, -1)
	}
	x.begins()
	return x
}

// can tells whether an entity is ready.
func (x *chapter) can(e int, ready []bool) bool {
	return e < len(ready) && ready[e] && !x.gone[x.guest[e]]
}

// mine is the entity whose turn it is at a hart that is partitioned.
func (x *chapter) mine(hart int) int {
	t := x.turns[hart]
	if len(t.of) == 0 {
		return -1
	}
	return t.of[t.it]
}

// goesBy lets a shared tick of a turn go by.
func (t *turns) goesBy(slice int) {
	t.used++
	if t.used == slice {
		t.it, t.used = t.it+1, 0
	}
	if t.it == len(t.of) {
		t.it = 0
	}
}

// gangs is what a gang's hart picks.
func (x *chapter) gangs(g, hart int, ready []bool) int {
	for e := range x.home {
		if x.guest[e] == g && x.home[e] == hart && x.can(e, ready) {
			return e
		}
	}
	return -1
}

// rich are those of a hart's queue that are ready and have a credit above 0; able, those that are ready.
func (x *chapter) rich(hart int, ready []bool) (rich, able []int) {
	for _, e := range x.lines[hart].queue {
		if x.can(e, ready) {
			able = append(able, e)
			if x.credit[e] > 0 {
				rich = append(rich, e)
			}
		}
	}
	return rich, able
}

// stays tells whether a current one is it again.
func (x *chapter) stays(hart int, ready []bool) bool {
	l := x.lines[hart]
	rich, _ := x.rich(hart, ready)
	switch {
	case !l.has || !x.can(l.it, ready):
		return false
	case l.used >= x.c.Slice:
		x.turned++
		return false
	case x.credit[l.it] > 0:
		return true
	case len(rich) == 0:
		x.stayed++
		return true
	}
	x.robbed++
	return false
}

// credits is what a hart picks by credit.
func (x *chapter) credits(hart int, ready []bool) int {
	l := &x.lines[hart]
	if x.stays(hart, ready) {
		return l.it
	}
	if l.has {
		x.went++
		var queue []int
		for _, e := range l.queue {
			if e != l.it {
				queue = append(queue, e)
			}
		}
		l.queue, l.has = append(queue, l.it), false
	}
	rich, able := x.rich(hart, ready)
	for _, e := range append(rich, able...) {
		l.has, l.it, l.used = true, e, 0
		return e
	}
	return -1
}

// pick is Pick.
func (x *chapter) pick(hart int, ready []bool) int {
	switch g := x.slot[x.at]; {
	case hart < 0 || hart >= x.c.Harts:
		return -1
	case g != -1:
		return x.gangs(g, hart, ready)
	case x.c.Credit:
		return x.credits(hart, ready)
	}
	if e := x.mine(hart); e != -1 && x.can(e, ready) {
		return e
	}
	return -1
}

// tick is Tick.
func (x *chapter) tick(ready []bool) {
	g := x.slot[x.at]
	for hart := 0; hart < x.c.Harts; hart++ {
		e := x.pick(hart, ready)
		if e != -1 {
			x.ran[e]++
		}
		switch {
		case g != -1:
			x.charged[g]++
		case x.c.Credit && e != -1:
			x.charged[x.guest[e]]++
			x.lines[hart].used++
			x.gives(e, -1)
		case !x.c.Credit && x.mine(hart) != -1:
			x.charged[x.guest[x.mine(hart)]]++
		}
		if g == -1 {
			x.turns[hart].goesBy(x.c.Slice)
		}
	}
	x.now, x.at = x.now+1, x.at+1
	if x.at == x.c.Period {
		x.at = 0
		x.begins()
	}
}

// gives turns a credit.
func (x *chapter) gives(e, n int) {
	x.credit[e] += n
	if most := x.q + 128; x.credit[e] > most {
		x.over++
		x.credit[e] = most
	} else if x.credit[e] < -most {
		x.lost++
		x.credit[e] = -most
	}
}

// begins gives credits out as a period begins.
func (x *chapter) begins() {
	if !x.c.Credit {
		return
	}
	for e := range x.home {
		g := x.c.Guests[x.guest[e]]
		if g.Gang || x.gone[x.guest[e]] {
			continue
		}
		w := 0
		for other := range x.home {
			if o := x.c.Guests[x.guest[other]]; !o.Gang && x.home[other] == x.home[e] && !x.gone[x.guest[other]] {
				w += o.Weight
			}
		}
		x.part[e] += x.q * g.Weight
		x.gives(e, x.part[e]/w)
		x.part[e] -= x.part[e] / w * w
	}
}

// remove is Remove.
func (x *chapter) remove(g int) {
	if g < 0 || g >= len(x.c.Guests) {
		return
	}
	x.gone[g] = true
	for hart := range x.lines {
		l := &x.lines[hart]
		var queue []int
		for _, e := range l.queue {
			if x.guest[e] != g {
				queue = append(queue, e)
			}
		}
		l.queue = queue
		l.has = l.has && x.guest[l.it] != g
	}
}
