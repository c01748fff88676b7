package sched

// Pick is the entity that a hart is to run.
func (s *Sched) Pick(hart int, ready []bool) int {
	if hart < 0 || hart >= s.harts {
		return none
	}
	if g := s.Gang(); g != none {
		return s.ofGang(g, hart, ready)
	}
	_, picked := s.order(hart, ready)
	return picked
}

// Gang is whose slot it is.
func (s *Sched) Gang() int {
	at := s.place()
	for i := range s.guests {
		g := &s.guests[i]
		if !g.gang {
			continue
		}
		if at < g.weight {
			return i
		}
		at -= g.weight
	}
	return none
}

// place is how many ticks of its period lie behind this time.
func (s *Sched) place() int { return int(s.now.Load() % uint64(s.period)) }

// ofGang is a gang's entity that a hart is to run in its slot.
func (s *Sched) ofGang(gang, hart int, ready []bool) int {
	list := s.homes().gangs[gang]
	if hart >= len(list) || !s.can(list[hart], ready) {
		return none
	}
	return list[hart]
}

// bySlots is the order of a hart that is partitioned: nothing but the time tells whose turn it is.
func (s *Sched) bySlots(hart int, ready []bool) (turn, picked int) {
	list := s.homes().plain[hart]
	if len(list) == 0 {
		return none, none
	}
	turn = list[s.behind()/uint64(s.slice)%uint64(len(list))]
	if !s.can(turn, ready) {
		return turn, none
	}
	return turn, turn
}

// behind is how many shared ticks lie behind a time that is shared itself.
func (s *Sched) behind() uint64 {
	periods := s.now.Load() / uint64(s.period)
	gangs := s.period - s.shared
	return periods*uint64(s.shared) + uint64(s.place()-gangs)
}

// can tells whether an entity can run.
func (s *Sched) can(e int, ready []bool) bool {
	return e < len(ready) && ready[e] && !s.isRemoved(e)
}
