package bare

import (
	"slices"

	"citadel/api"
)

// See tells what can be seen.
func (m *Machine) See() api.Sight {
	return api.Sight{
		Vcpus:   slices.Clone(m.vcpus),
		Now:     m.now,
		Uart:    m.board.Uart(),
		Console: m.board.Console(),
		Disk:    m.board.Disk(),
		Down:    m.down,
	}
}

// Memory tells a page.
func (m *Machine) Memory(page int) []byte {
	if page < 0 || page >= m.mem.Frames() {
		return nil
	}
	b, _ := m.mem.Bytes(api.RamBase+uint64(page)*api.PageSize, api.PageSize)
	return b
}

// Take takes the frames that the card has sent.
func (m *Machine) Take() [][]byte { return m.board.Take() }
