package hart

import "citadel/api"

// Numbers of CSRs.
const (
	sstatus  = 0x100
	sie      = 0x104
	stvec    = 0x105
	sscratch = 0x140
	sepc     = 0x141
	scause   = 0x142
	stval    = 0x143
	sip      = 0x144
	satp     = 0x180
	time     = 0xc01
)

// Bits of sstatus.
const (
	statusOn   = 1 << 1
	statusSpie = 1 << 5
	statusSpp  = 1 << 8
	statusSum  = 1 << 18
	statusMxr  = 1 << 19
	// statusWide says that a user's words have 64 bits too.
	statusWide = 2 << 32
)

// What satp may say by its highest four bits.
const (
	modeFrom   = 60
	modeNone   = 0
	modeTables = 8
)

// Read reads a CSR.
func Read(h api.Hart, csr int, now uint64) (uint64, bool) {
	if csr == time {
		return now, true
	}
	if h.User {
		return 0, false
	}
	h = inOrder(h)
	switch csr {
	case sstatus:
		return status(h), true
	case sie:
		return h.Sie, true
	case stvec:
		return h.Stvec, true
	case sscratch:
		return h.Sscratch, true
	case sepc:
		return h.Sepc, true
	case scause:
		return h.Scause, true
	case stval:
		return h.Stval, true
	case sip:
		return h.Sip, true
	case satp:
		return h.Satp, true
	}
	return 0, false
}

// Write writes a CSR. Bits that a CSR does not have are written too: bringing the hart in order takes them away.
func Write(h api.Hart, csr int, v uint64) (api.Hart, bool) {
	h = inOrder(h)
	if h.User {
		return h, false
	}
	switch csr {
	case sstatus:
		h = withStatus(h, v)
	case sie:
		h.Sie = v
	case stvec:
		h.Stvec = v
	case sscratch:
		h.Sscratch = v
	case sepc:
		h.Sepc = v
	case scause:
		h.Scause = v
	case stval:
		h.Stval = v
	case sip:
		h.Sip = h.Sip&^(1<<software) | v&(1<<software)
	case satp:
		h = withSatp(h, v)
	default:
		return h, false
	}
	return inOrder(h), true
}

// status is what sstatus says of a hart.
func status(h api.Hart) uint64 {
	return statusWide | bit(h.On, statusOn) | bit(h.Spie, statusSpie) | bit(h.Spp, statusSpp) |
		bit(h.Sum, statusSum) | bit(h.Mxr, statusMxr)
}

// bit is a bit where something is so, else 0.
func bit(so bool, b uint64) uint64 {
	if so {
		return b
	}
	return 0
}

// withStatus is a hart of which sstatus says v.
func withStatus(h api.Hart, v uint64) api.Hart {
	h.On, h.Spie, h.Spp = v&statusOn != 0, v&statusSpie != 0, v&statusSpp != 0
	h.Sum, h.Mxr = v&statusSum != 0, v&statusMxr != 0
	return h
}

// withSatp is a hart whose satp is v, if that is one.
func withSatp(h api.Hart, v uint64) api.Hart {
	if mode := v >> modeFrom; mode == modeNone || mode == modeTables {
		h.Satp = v
	}
	return h
}
