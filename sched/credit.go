package sched

import (
	"slices"

	"citadel/api"
)

// round is whose turn it is at a hart by credit. The current entity keeps its place in the queue.
type round struct {
	queue         []int
	current, used int
}

// begin has each hart's plain entities queue up, and gives the first credits out.
func (s *Sched) begin() {
	for _, list := range s.homes().plain {
		s.rounds = append(s.rounds, round{queue: slices.Clone(list), current: none})
	}
	s.giveOut()
}

// byCredit is the order of a hart by credit: whoever's turn it is can run, and is picked.
func (s *Sched) byCredit(hart int, ready []bool) (turn, picked int) {
	r := &s.rounds[hart]
	if !s.goesOn(r, ready) {
		r.yield()
		r.current, r.used = s.first(r.queue, ready), 0
	}
	return r.current, r.current
}

// goesOn tells whether the current entity still has its turn.
func (s *Sched) goesOn(r *round, ready []bool) bool {
	if r.current == none || !s.can(r.current, ready) || r.used >= s.slice {
		return false
	}
	return s.hasCredit(r.current) || !s.hasCredit(s.first(r.queue, ready))
}

// yield sends the current entity to the end of the queue, if it has not left it.
func (r *round) yield() {
	if at := slices.Index(r.queue, r.current); at >= 0 {
		r.queue = append(slices.Delete(r.queue, at, at+1), r.current)
	}
}

// first is the first of a queue that can run and has credit, or else the first that can run.
func (s *Sched) first(queue []int, ready []bool) int {
	can := none
	for _, e := range queue {
		if !s.can(e, ready) {
			continue
		}
		if s.hasCredit(e) {
			return e
		}
		if can == none {
			can = e
		}
	}
	return can
}

// hasCredit tells whether an entity has a credit above 0.
func (s *Sched) hasCredit(e int) bool { return s.entities[e].credit > 0 }

// giveOut gives each hart's credits out, as a period begins. What is left over in dividing is kept for the next one,
// so that in the long run nobody has less than its weight says.
func (s *Sched) giveOut() {
	for hart := range s.rounds {
		queue := s.rounds[hart].queue
		sum := 0
		for _, e := range queue {
			sum += s.weight(e)
		}
		for _, e := range queue {
			x := &s.entities[e]
			x.part += s.shared * s.weight(e)
			s.credits(e, x.part/sum)
			x.part %= sum
		}
	}
}

// weight is an entity's weight: its guest's.
func (s *Sched) weight(e int) int { return s.guests[s.entities[e].guest].weight }

// credits changes an entity's credit; what is beyond the bounds is lost.
func (s *Sched) credits(e, n int) {
	most := s.shared + 2*api.MaxVcpus
	x := &s.entities[e]
	x.credit = max(-most, min(most, x.credit+n))
}

// spend has the current entity of a hart pay for a tick.
func (s *Sched) spend(hart, e int) {
	s.credits(e, -1)
	s.rounds[hart].used++
}

// leave takes those who were removed out of all queues. Where one of them is current it can't run any more, and so has
// its turn no more either.
func (s *Sched) leave() {
	for hart := range s.rounds {
		r := &s.rounds[hart]
		r.queue = slices.DeleteFunc(r.queue, s.isRemoved)
	}
}
