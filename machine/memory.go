package machine

import (
	"foliant/api"
	"foliant/kernel"
)

// memory is a right kernel, and then always the one that its last call answered; it is the processes' proc.Memory.
// Only faults, and the errors that a process is told, can come: spaces that are asked for are Live, sizes and ways may be.
type memory struct{ kernel api.Kernel }

// keep: with an error the kernel stays.
func (m *memory) keep(k api.Kernel, err api.Errno) api.Errno {
	if err == api.OK {
		m.kernel = k
	}
	return err
}

// Load: see proc.Memory.
func (m *memory) Load(space, addr, size, way int) (string, api.Fault) {
	k, s, f, err := kernel.Load(m.kernel, space, addr, size, way)
	if f.Kind == api.NoFault {
		m.keep(k, err)
	}
	return s, f
}

// Store: see proc.Memory.
func (m *memory) Store(space, addr int, s string) api.Fault {
	k, f, err := kernel.Store(m.kernel, space, addr, s)
	if f.Kind == api.NoFault {
		m.keep(k, err)
	}
	return f
}

// Map: see proc.Memory.
func (m *memory) Map(space, page, pages, prot int) api.Errno {
	return m.keep(kernel.Map(m.kernel, space, page, pages, prot))
}

// Unmap: see proc.Memory.
func (m *memory) Unmap(space, page, pages int) api.Errno {
	return m.keep(kernel.Unmap(m.kernel, space, page, pages))
}

// Protect: see proc.Memory.
func (m *memory) Protect(space, page, pages, prot int) api.Errno {
	return m.keep(kernel.Protect(m.kernel, space, page, pages, prot))
}

// Fork: see proc.Memory.
func (m *memory) Fork(space int) api.Errno {
	k, _, err := kernel.Fork(m.kernel, space) // its number is how many there were
	return m.keep(k, err)
}

// Drop: see proc.Memory.
func (m *memory) Drop(space int) { m.keep(kernel.Drop(m.kernel, space)) }
