package bare

import (
	"citadel/api"
	"citadel/mmio"
	"citadel/vcpu"
)

// noStep is the kind of the event of a step that does nothing.
const noStep = -1

// Peek tells what the next step of a virtual hart would come to.
func (m *Machine) Peek(v int) api.Event {
	if it, ok := m.ready(v); ok && it.State == api.Running {
		return m.core.Peek(it.Hart, m.now)
	}
	return api.Event{Kind: noStep}
}

// ready is a virtual hart as it is when it has its turn, and whether it may have one.
func (m *Machine) ready(v int) (api.Vcpu, bool) {
	if m.down || v < 0 || v >= len(m.vcpus) {
		return api.Vcpu{}, false
	}
	return vcpu.Ready(m.vcpus[v], m.now, m.board.Pending(v)), true
}

// step is one of a virtual hart. That its interrupts are brought up to now stays, though it may not run.
func (m *Machine) step(l api.Label) {
	it, ok := m.ready(l.N)
	if !ok {
		return
	}
	m.vcpus[l.N] = it
	if it.State == api.Running {
		h, ev := m.core.Step(it.Hart, m.now)
		m.vcpus[l.N].Hart = h
		m.end(l.N, ev)
	}
}

// end does what a step of a virtual hart leaves to its machine.
func (m *Machine) end(v int, ev api.Event) {
	switch ev.Kind {
	case api.ExitFault:
		m.vcpus[v].Hart = m.emulate(m.vcpus[v].Hart, ev)
	case api.ExitCall:
		m.call(v)
	case api.ExitWait:
		m.vcpus[v] = vcpu.Wait(m.vcpus[v])
	}
	if ev.Wrote {
		m.vcpus = vcpu.Wrote(m.vcpus, v, ev.GPA)
	}
}

// call is one that a virtual hart makes as a supervisor.
func (m *Machine) call(v int) {
	next, out, down := vcpu.Call(m.vcpus, v)
	m.vcpus, m.down = next, down
	for _, b := range out {
		m.board.Put(b)
	}
}

// emulate ends what a hart could not do in its memory: as a load or a store of a device's, or else by a trap.
func (m *Machine) emulate(h api.Hart, ev api.Event) api.Hart {
	if a, ok := m.asked(h, ev); ok {
		if v, ok := m.access(a, ev.GPA); ok {
			return mmio.Finish(h, a, v)
		}
	}
	return mmio.Refuse(h, ev)
}

// asked is the load or the store that has come to an event, and whether it was one.
func (m *Machine) asked(h api.Hart, ev api.Event) (api.Access, bool) {
	w, long, fetched := mmio.Fetch(m.mem, root, h)
	a, planned := mmio.Plan(h, w, long)
	return a, fetched && planned && mmio.Match(a, ev)
}

// access is a device's answer to a load or a store, and whether there is one.
func (m *Machine) access(a api.Access, gpa uint64) (uint64, bool) {
	if a.Store {
		return 0, m.board.Write(m.mem, gpa, a.Size, a.Value)
	}
	return m.board.Read(m.mem, gpa, a.Size, m.now)
}
