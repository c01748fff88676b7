package board

import (
	"citadel/plat"
	"citadel/virtq"
)

// Where the UART has the registers by which it sends.
const (
	dataAt  = 0
	ierAt   = 1
	causeAt = 2
	lcrAt   = 3
)

// Bits of them.
const (
	letsEmpty  = 0x02 // of IER
	causeBits  = 0x0f
	causeEmpty = 0x02
)

// serial is the UART, whose registers have a byte each.
type serial struct{ *plat.Uart }

func (s serial) read(off uint64, size int, _ uint64) (uint64, bool) {
	if size != 1 {
		return 0, false
	}
	return uint64(s.Read(off)), true
}

func (s serial) write(_ virtq.Mem, off uint64, size int, v uint64) bool {
	if size != 1 {
		return false
	}
	s.Write(off, byte(v))
	return true
}

func (s serial) in(_ virtq.Mem, b []byte) bool {
	for _, v := range b {
		s.In(v)
	}
	return true
}

func (s serial) irq() bool { return s.Irq() }

// put sends a byte, and leaves all else as it was. The write makes the UART empty. Where IER lets that interrupt, it is
// taken away again, unless it was so before; elsewhere it may stay: nobody is told of it till IER lets it, and then it
// is so anyway.
func (s serial) put(v byte) {
	lcr := s.Read(lcrAt)
	s.Write(lcrAt, 0)
	ier := s.Read(ierAt)
	s.Write(ierAt, ier&letsEmpty) // so that no other cause comes ahead
	was := s.tellEmpty()
	s.Write(dataAt, v)
	if !was {
		s.tellEmpty()
	}
	s.Write(ierAt, ier)
	s.Write(lcrAt, lcr)
}

// tellEmpty tells whether it interrupts since it is empty. Behind that it does not.
func (s serial) tellEmpty() bool { return s.Read(causeAt)&causeBits == causeEmpty }
