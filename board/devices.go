package board

import (
	"citadel/engine"
	"citadel/plat"
	"citadel/virtdev"
	"citadel/virtq"
)

// device is what stands at addresses. Through this alone a board reads and writes registers, by their offsets.
type device interface {
	read(off uint64, size int, now uint64) (uint64, bool)
	write(m virtq.Mem, off uint64, size int, v uint64) bool
}

// port is a device that has a port: something may come in to it, and it may want to interrupt.
type port interface {
	device
	in(m virtq.Mem, b []byte) bool
	irq() bool
}

// nobody is who answers where there is no device, and for devices what they don't do: all is refused, and nothing
// interrupts.
type nobody struct{}

func (nobody) read(uint64, int, uint64) (uint64, bool)   { return 0, false }
func (nobody) write(virtq.Mem, uint64, int, uint64) bool { return false }
func (nobody) in(virtq.Mem, []byte) bool                 { return false }
func (nobody) irq() bool                                 { return false }

// clock is the clock. Nobody writes it.
type clock struct {
	nobody
	*plat.Clock
}

func (c clock) read(off uint64, size int, now uint64) (uint64, bool) { return c.Read(off, size, now) }

// controller is the interrupt controller.
type controller struct{ *plat.Intc }

func (c controller) read(off uint64, size int, _ uint64) (uint64, bool) { return c.Read(off, size) }

func (c controller) write(_ virtq.Mem, off uint64, size int, v uint64) bool {
	return c.Write(off, size, v)
}

// virtio is a virtio device.
type virtio struct{ *virtdev.Dev }

func (d virtio) read(off uint64, size int, _ uint64) (uint64, bool) { return d.Read(off, size) }

func (d virtio) write(m virtq.Mem, off uint64, size int, v uint64) bool {
	return d.Write(m, off, size, v)
}

func (d virtio) in(m virtq.Mem, b []byte) bool { return d.In(m, b) }

func (d virtio) irq() bool { return d.Irq() }

// copier is the engine. Nothing comes in to it, and it interrupts by its messages alone.
type copier struct {
	nobody
	*engine.Engine
}

func (c copier) read(off uint64, size int, _ uint64) (uint64, bool) { return c.Read(off, size) }

func (c copier) write(_ virtq.Mem, off uint64, size int, v uint64) bool { return c.Write(off, size, v) }
