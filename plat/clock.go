package plat

// Clock is a clock. It keeps a high half, so that both halves that a guest reads are of one time.
type Clock struct {
	high uint64
}

// NewClock is a clock.
func NewClock() *Clock { return &Clock{} }

// Read reads a register.
func (c *Clock) Read(off uint64, size int, now uint64) (uint64, bool) {
	if size != 4 {
		return 0, false
	}
	switch off {
	case clockLow:
		c.high = now >> 32
		return now & (1<<32 - 1), true
	case clockHigh:
		return c.high, true
	}
	return 0, false
}
