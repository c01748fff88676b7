package virtdev

import "citadel/api"

// maxLearned is how many addresses a switch learns.
const maxLearned = 32

// groupBit is the bit of an address's first byte by which it is of more than one card: nobody stands at it.
const groupBit = 1

// address is a card's address.
type address [6]byte

// Switch is a learning switch.
type Switch struct {
	ports int
	known map[address]int // the port of each address
}

// NewSwitch is a switch.
func NewSwitch(ports int) (*Switch, api.Errno) {
	if ports < 1 || ports > api.MaxGuests {
		return nil, api.ErrArg
	}
	return &Switch{ports: ports, known: map[address]int{}}, api.OK
}

// Send tells where a frame goes. It learns first: of a frame to its own sender it knows the port then.
func (s *Switch) Send(port int, frame []byte) []int {
	if port < 0 || port >= s.ports || len(frame) < minFrame {
		return nil
	}
	var to, from address
	copy(to[:], frame)
	copy(from[:], frame[len(to):])
	s.learn(from, port)
	at, ok := s.known[to]
	switch {
	case !ok:
		return s.others(port)
	case at == port:
		return nil
	}
	return []int{at}
}

// Learned is how many addresses it knows.
func (s *Switch) Learned() int { return len(s.known) }

// learn keeps at which port an address stands. One that it knows may move, even when it learns no more.
func (s *Switch) learn(a address, port int) {
	_, ok := s.known[a]
	if a[0]&groupBit == 0 && (ok || len(s.known) < maxLearned) {
		s.known[a] = port
	}
}

// others are all ports but one, rising.
func (s *Switch) others(port int) []int {
	var list []int
	for p := range s.ports {
		if p != port {
			list = append(list, p)
		}
	}
	return list
}
