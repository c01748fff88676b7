package sched

// homes is who is at home where.
type homes struct {
	of    []int   // each entity's home
	plain [][]int // each hart's plain entities
	gangs [][]int // each guest's entities by their homes; of a guest that is no gang none
}

// lay makes the table of homes.
func (s *Sched) lay() {
	t := &s.table
	t.plain, t.gangs = make([][]int, s.harts), make([][]int, len(s.guests))
	for e, x := range s.entities {
		home := e % s.harts
		if s.guests[x.guest].gang {
			home = x.index
			t.gangs[x.guest] = append(t.gangs[x.guest], e)
		} else {
			t.plain[home] = append(t.plain[home], e)
		}
		t.of = append(t.of, home)
	}
}

// homes is the table of homes.
func (s *Sched) homes() *homes {
	s.once.Do(s.lay)
	return &s.table
}
