package inst

import "citadel/api"

// The registers that compressed forms name without a field.
const (
	zero = 0
	link = 1
	sp   = 2
)

// half is a compressed instruction; its fields are its methods.
type half uint16

// bits is the field [high:low].
func (c half) bits(high, low int) int {
	return word(c).bits(high, low)
}

func (c half) quadrant() int { return c.bits(1, 0) }
func (c half) f3() int       { return c.bits(15, 13) }
func (c half) rd() int       { return c.bits(11, 7) }
func (c half) rs2() int      { return c.bits(6, 2) }

// The short forms of registers, of three bits, begin with x8.
func (c half) shortRs1() int { return 8 + c.bits(9, 7) }
func (c half) shortRs2() int { return 8 + c.bits(4, 2) }

// amount is [12], [6:2] without sign.
func (c half) amount() int { return c.bits(12, 12)<<5 | c.bits(6, 2) }

// small is [12], [6:2] with sign.
func (c half) small() int { return signed(c.amount(), 6) }

func (c half) immStack() int {
	return c.bits(10, 7)<<6 | c.bits(12, 11)<<4 | c.bits(5, 5)<<3 | c.bits(6, 6)<<2
}

func (c half) immWord() int {
	return c.bits(5, 5)<<6 | c.bits(12, 10)<<3 | c.bits(6, 6)<<2
}

func (c half) immDouble() int {
	return c.bits(6, 5)<<6 | c.bits(12, 10)<<3
}

func (c half) immMove() int {
	return signed(c.bits(12, 12)<<9|c.bits(4, 3)<<7|c.bits(5, 5)<<6|c.bits(2, 2)<<5|c.bits(6, 6)<<4, 10)
}

func (c half) immJump() int {
	n := c.bits(12, 12)<<11 | c.bits(8, 8)<<10 | c.bits(10, 9)<<8 | c.bits(6, 6)<<7
	n |= c.bits(7, 7)<<6 | c.bits(2, 2)<<5 | c.bits(11, 11)<<4 | c.bits(5, 3)<<1
	return signed(n, 12)
}

func (c half) immBranch() int {
	n := c.bits(12, 12)<<8 | c.bits(6, 5)<<6 | c.bits(2, 2)<<5 | c.bits(11, 10)<<3 | c.bits(4, 3)<<1
	return signed(n, 9)
}

func (c half) immPopWord() int {
	return c.bits(3, 2)<<6 | c.bits(12, 12)<<5 | c.bits(6, 4)<<2
}

func (c half) immPopDouble() int {
	return c.bits(4, 2)<<6 | c.bits(12, 12)<<5 | c.bits(6, 5)<<3
}

func (c half) immPushWord() int {
	return c.bits(8, 7)<<6 | c.bits(12, 9)<<2
}

func (c half) immPushDouble() int {
	return c.bits(9, 7)<<6 | c.bits(12, 10)<<3
}

// signed is a number of some bits, whose highest is its sign.
func signed(n, width int) int {
	return n << (64 - width) >> (64 - width)
}

// read is the instruction that a compressed one stands for.
func (c half) read() (api.Inst, bool) {
	switch c.quadrant() {
	case 0:
		return c.first()
	case 1:
		return c.second()
	case 2:
		return c.third()
	}
	return api.Inst{}, false
}
