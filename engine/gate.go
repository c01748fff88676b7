package engine

import (
	"citadel/api"
	"citadel/ram"
)

// Without an IOMMU there is one guest, and so many messages, which go to its interrupts from the first one on.
const (
	flatGuest    = 1
	flatMessages = 16
	flatFirst    = 16
)

// gate is what an engine's accesses and messages go through: an IOMMU, or a memory with nothing ahead of it.
type gate interface {
	Access(dev int, addr uint64, size int, write bool) (uint64, bool)
	Message(dev int, addr, data uint64) (api.Msi, bool)
}

// flat is a memory with nothing ahead of it.
type flat struct{ m *ram.RAM }

// Access lets through what lies in the memory.
func (f flat) Access(_ int, addr uint64, size int, _ bool) (uint64, bool) {
	if !f.m.Has(addr, size) {
		return 0, false
	}
	return addr, true
}

// Message tells where a message goes.
func (f flat) Message(_ int, addr, data uint64) (api.Msi, bool) {
	if addr != api.MsiBase || data >= flatMessages {
		return api.Msi{}, false
	}
	return api.Msi{Guest: flatGuest, Irq: flatFirst + int(data)}, true
}
