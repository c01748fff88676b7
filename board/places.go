package board

import (
	"citadel/api"
	"citadel/plat"
)

// How many addresses the UART has, and configuration space, of whose slots each has a page.
const (
	uartSize  = 8
	spaceSize = api.MaxDevs * api.PageSize
)

// Sources of interrupts.
const (
	uartSource = 1
	slotSource = 8 // of slot 0; the others follow it
)

// place is where a device stands for ever.
type place struct {
	base, size uint64
	at         device
}

// newPlaces are the places of a board.
func (b *Board) newPlaces() []place {
	return []place{
		{api.UartBase, uartSize, b.uart},
		{api.ClockBase, api.PageSize, clock{Clock: plat.NewClock()}},
		{api.IntcBase, api.IntcSize, controller{b.intc}},
		{api.PciBase, spaceSize, b.space},
	}
}

// find is what stands at an address, and the offset there: the devices that stand where they do for ever come ahead of
// those that a guest may have laid over them.
func (b *Board) find(addr uint64) (device, uint64) {
	for _, p := range b.places {
		behind := addr - p.base // of an address below the base more than any size, modulo 2^64
		if behind < p.size {
			return p.at, behind
		}
	}
	if slot, off, ok := b.space.bus.Find(addr); ok {
		return b.ports[slotPort(slot)], off
	}
	return nobody{}, 0
}

// slotPort is a slot's port: the first one is the UART's.
func slotPort(slot int) int { return 1 + slot }

// level tells the interrupt controller who wants to interrupt.
func (b *Board) level() {
	b.intc.Level(uartSource, b.uart.irq())
	for slot := range b.space.bus.Slots() {
		b.intc.Level(slotSource+slot, b.ports[slotPort(slot)].irq())
	}
}
