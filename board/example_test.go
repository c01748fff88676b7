package board_test

import (
	"testing"

	"citadel/api"
	"citadel/board"
	"citadel/ram"
)

// The chapter's section 'Examples'.
func TestExamples(t *testing.T) {
	m, _ := ram.New(0, 1)
	b, e := board.New(1, []int{api.DevBlk}, make([]byte, 512), nil)
	if e != api.OK {
		t.Fatalf("P16.1: New: %d", e)
	}
	reads := func(addr uint64, size int, want uint64, is bool) {
		t.Helper()
		if v, ok := b.Read(m, addr, size, 0); v != want || ok != is {
			t.Errorf("P16.2: Read(%#x, %d) = %#x, %v, not %#x, %v", addr, size, v, ok, want, is)
		}
	}
	reads(0x10000005, 1, 0x60, true)
	reads(0x10000005, 4, 0, false)
	reads(0x30000000, 4, 0x10421af4, true)
	if !b.Write(m, 0x30000010, 4, 0x40000000) || !b.Write(m, 0x30000004, 2, 2) {
		t.Error("P16.2: Write is refused")
	}
	reads(0x40000008, 4, 2, true)
	if !b.In(m, 0, []byte("a")) {
		t.Error("P16.4: In is false")
	}
	reads(0x10000000, 1, 97, true)
}
