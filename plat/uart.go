package plat

import "slices"

// room is how many bytes wait in the queue at most.
const room = 16

// Bits of what is written and read.
const (
	latchBit  = 0x80 // LCR: offsets 0 and 1 are the divisor's
	dropBit   = 0x02 // FCR: the queue is emptied
	queuesBit = 0x01 // FCR: what stays of it
	queuesOn  = 0xc0 // beside the cause
	ierBits   = 0x0f
	mcrBits   = 0x1f
	lineIdle  = 0x60
	lineByte  = 0x01
	lineLost  = 0x02
	modemIs   = 0xb0
)

// Bits of IER: what may interrupt.
const (
	letsByte  = 1
	letsEmpty = 2
	letsLost  = 4
)

// The causes.
const (
	causeNone  = 1
	causeEmpty = 2
	causeByte  = 4
	causeLost  = 6
)

// Uart is a 16550.
type Uart struct {
	queue, sent    []byte
	held           [uartOffsets]byte // IER, FCR, LCR, MCR and SCR, by their offsets
	divisor        [2]byte           // DLL and DLM
	overrun, empty bool
}

// NewUart is a UART.
func NewUart() *Uart { return &Uart{} }

// Read reads a register. With LCR's bit 7 offset 0 falls through to the divisor, without it offset 1 to what is held.
func (u *Uart) Read(off uint64) byte {
	switch off {
	case uartData:
		if !u.latched() {
			return u.next()
		}
		fallthrough
	case uartIER:
		if u.latched() {
			return u.divisor[off]
		}
		fallthrough
	case uartLCR, uartMCR, uartSCR:
		return u.held[off]
	case uartFCR:
		return u.tellCause()
	case uartLine:
		return u.tellLine()
	case uartModem:
		return modemIs
	}
	return 0
}

// Write writes a register. It falls through as Read does, and on the way to what is held loses the bits that are not.
func (u *Uart) Write(off uint64, v byte) {
	switch off {
	case uartData:
		if !u.latched() {
			u.send(v)
			return
		}
		fallthrough
	case uartIER:
		if u.latched() {
			u.divisor[off] = v
			return
		}
		v &= ierBits
		u.empty = u.empty || v&^u.held[uartIER]&letsEmpty != 0
		fallthrough
	case uartMCR:
		v &= mcrBits
		fallthrough
	case uartLCR, uartSCR:
		u.held[off] = v
	case uartFCR:
		u.held[off] = v & queuesBit
		if v&dropBit != 0 {
			u.queue = nil
		}
	}
}

// In is a byte that comes in.
func (u *Uart) In(v byte) {
	if len(u.queue) == room {
		u.overrun = true
		return
	}
	u.queue = append(u.queue, v)
}

// Out is all that was sent.
func (u *Uart) Out() []byte { return slices.Clone(u.sent) }

// Irq tells whether it wants to interrupt.
func (u *Uart) Irq() bool { return u.cause() != causeNone }

// latched tells whether offsets 0 and 1 are the divisor's.
func (u *Uart) latched() bool { return u.held[uartLCR]&latchBit != 0 }

// next takes the first byte out of the queue.
func (u *Uart) next() byte {
	if len(u.queue) == 0 {
		return 0
	}
	v := u.queue[0]
	u.queue = slices.Delete(u.queue, 0, 1)
	return v
}

// send sends a byte.
func (u *Uart) send(v byte) {
	u.sent = append(u.sent, v)
	u.empty = true
}

// cause is why it wants to interrupt.
func (u *Uart) cause() byte {
	lets := u.held[uartIER]
	switch {
	case u.overrun && lets&letsLost != 0:
		return causeLost
	case len(u.queue) > 0 && lets&letsByte != 0:
		return causeByte
	case u.empty && lets&letsEmpty != 0:
		return causeEmpty
	}
	return causeNone
}

// tellCause is the cause as it is read. Whoever was told that it is empty is not told again.
func (u *Uart) tellCause() byte {
	v := u.cause()
	if v == causeEmpty {
		u.empty = false
	}
	if u.held[uartFCR] != 0 {
		v |= queuesOn
	}
	return v
}

// tellLine is the line's status as it is read. Whoever was told of a loss is not told again.
func (u *Uart) tellLine() byte {
	v := byte(lineIdle)
	if len(u.queue) > 0 {
		v |= lineByte
	}
	if u.overrun {
		v |= lineLost
	}
	u.overrun = false
	return v
}
