package sched

// Tick lets a tick go by.
func (s *Sched) Tick(ready []bool) {
	gang := s.Gang()
	for hart := range s.harts {
		if gang != none {
			s.tickOfGang(gang, hart, ready)
		} else {
			s.tickShared(hart, ready)
		}
	}
	s.now.Add(1)
	if s.place() == 0 {
		s.giveOut()
	}
}

// tickOfGang lets a tick of a gang's slot go by at a hart. The hart is the gang's, whether or not it runs there.
func (s *Sched) tickOfGang(gang, hart int, ready []bool) {
	s.guests[gang].charged.Add(1)
	s.runs(s.ofGang(gang, hart, ready))
}

// tickShared lets a shared tick go by at a hart.
func (s *Sched) tickShared(hart int, ready []bool) {
	turn, picked := s.order(hart, ready)
	if turn != none {
		s.guests[s.entities[turn].guest].charged.Add(1)
	}
	s.runs(picked)
	if picked != none && len(s.rounds) > 0 {
		s.spend(hart, picked)
	}
}

// runs counts a tick that an entity ran.
func (s *Sched) runs(e int) {
	if e != none {
		s.entities[e].ran++
	}
}
