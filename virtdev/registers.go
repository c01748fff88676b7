package virtdev

import "citadel/virtq"

// Where the registers are, each of regSize bytes.
const (
	magicAt          = 0x00
	versionAt        = 0x04
	kindAt           = 0x08
	vendorAt         = 0x0c
	offeredAt        = 0x10
	selectOfferedAt  = 0x14
	acceptedAt       = 0x20
	selectAcceptedAt = 0x24
	selectQueueAt    = 0x30
	maxSizeAt        = 0x34
	sizeAt           = 0x38
	readyAt          = 0x44
	noticeAt         = 0x50
	interruptsAt     = 0x60
	takeAwayAt       = 0x64
	statusAt         = 0x70
	descAt           = 0x80
	availAt          = 0x90
	usedAt           = 0xa0
	sectorsAt        = 0x100
	lastAt           = 0x1fc
	regSize          = 4
)

// What the first registers tell: by these numbers a driver knows what it has before it.
const (
	magic   = 0x74726976
	version = 2
	vendor  = 0x554d4551
)

// Features are 32 bits for each selection; the only one is bit 0 of selection 1.
const (
	selections   = 2
	oneSelection = 1
	oneFeature   = 1
)

// Bits of status.
const (
	driverBit   = 4 // the driver is at work
	featuresBit = 8 // the features that were accepted may be
	brokenBit   = 64
	statusBits  = 0xff
)

// Bits of the interrupts.
const (
	givenBit = 1
	deadBit  = 2
)

// held is what the registers hold, but for the queues': all of it goes by a reset.
type held struct {
	selectOffered, selectAccepted, selectQueue uint32
	accepted                                   [selections]uint32
	status, interrupts                         uint32
}

// isRegister tells whether there is a register of that size.
func isRegister(off uint64, size int) bool {
	return size == regSize && off%regSize == 0 && off <= lastAt
}

// Read reads a register.
func (d *Dev) Read(off uint64, size int) (uint64, bool) {
	if !isRegister(off, size) {
		return 0, false
	}
	return uint64(d.tell(off)), true
}

// tell is what a register is read as.
func (d *Dev) tell(off uint64) uint32 {
	switch off {
	case magicAt:
		return magic
	case versionAt:
		return version
	case kindAt:
		return uint32(d.kind)
	case vendorAt:
		return vendor
	case offeredAt:
		if d.held.selectOffered == oneSelection {
			return oneFeature
		}
	case maxSizeAt, readyAt:
		if q := d.queue(d.held.selectQueue); q != nil {
			return q.tell(off)
		}
	case interruptsAt:
		return d.held.interrupts
	case statusAt:
		return d.held.status
	case sectorsAt: // the high half is always 0: no disk has so many
		return uint32(d.disk.sectors())
	}
	return 0
}

// Write writes a register.
func (d *Dev) Write(m virtq.Mem, off uint64, size int, v uint64) bool {
	if !isRegister(off, size) {
		return false
	}
	h, low := &d.held, uint32(v)
	switch off {
	case selectOfferedAt:
		h.selectOffered = low
	case selectAcceptedAt:
		h.selectAccepted = low
	case acceptedAt:
		if h.selectAccepted < selections {
			h.accepted[h.selectAccepted] = low
		}
	case selectQueueAt:
		h.selectQueue = low
	case noticeAt:
		d.notice(m, low)
	case takeAwayAt:
		h.interrupts &^= low
	case statusAt:
		d.become(low)
	default:
		if q := d.queue(h.selectQueue); q != nil {
			q.set(off, low)
		}
	}
	return true
}

// become is what a driver makes of the status. That the device is broken only a reset takes away.
func (d *Dev) become(v uint32) {
	if v == 0 {
		d.reset()
		return
	}
	status := v & statusBits &^ brokenBit
	if d.held.accepted != [selections]uint32{oneSelection: oneFeature} {
		status &^= featuresBit
	}
	d.held.status = status | d.held.status&brokenBit
}

// queue is the queue of a number; nil if there is none.
func (d *Dev) queue(number uint32) *queue {
	if int(number) >= len(d.queues) {
		return nil
	}
	return d.queues[number]
}
