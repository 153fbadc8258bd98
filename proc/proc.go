// Package proc: processes, which do instructions, and the memory that they do them on, whatever kind of it a machine has.
package proc

import (
	"foliant/api"
	"foliant/bits"
	"foliant/cpu"
)

const instrSize = 8

// Memory is spaces: process n has the space n. What it is asked for is of a space that is Live.
type Memory interface {
	// Load: size bytes from addr on, to be read or run; none, with a fault.
	Load(space, addr, size, way int) (string, api.Fault)
	// Store: the bytes from addr on are s; none of them, with a fault.
	Store(space, addr int, s string) api.Fault
	// Map, Unmap, Protect: nothing changes, with an error.
	Map(space, page, pages, prot int) api.Errno
	Unmap(space, page, pages int) api.Errno
	Protect(space, page, pages, prot int) api.Errno
	// Fork: one more space, behind all; none, with an error.
	Fork(space int) api.Errno
	// Drop: the space is not Live any more.
	Drop(space int)
}

// Group is the processes of a machine, the words that they told, and their memory. Its calls change it.
type Group struct {
	Memory Memory
	Procs  []api.Proc
	Out    []api.Word
}

// Begin: the process that a machine begins with.
func Begin(entry int) api.Proc { return api.Proc{Pc: entry, State: api.Running} }

// Right: if the words are of these processes, and these are right, live telling which of their spaces are.
func Right(procs []api.Proc, out []api.Word, live func(space int) bool) bool {
	for n, p := range procs {
		if !rightProc(p) || live(n) != (p.State == api.Running) {
			return false
		}
	}
	for _, w := range out {
		if w.Proc < 0 || w.Proc >= len(procs) {
			return false
		}
	}
	return true
}

func rightProc(p api.Proc) bool {
	switch p.State {
	case api.Running:
		return p.Code == 0 && p.Fault == api.Fault{}
	case api.Exited:
		return p.Fault == api.Fault{}
	case api.Killed:
		return p.Code == 0 && p.Fault.Kind >= api.FaultMap && p.Fault.Kind <= api.FaultCode
	}
	return false
}

// Step: process pick does one instruction, if it is Running.
func (g *Group) Step(pick int) api.Errno {
	switch {
	case pick < 0 || pick >= len(g.Procs):
		return api.ErrNone
	case g.Procs[pick].State != api.Running:
		return api.OK
	case len(g.Out) >= api.MaxPicks:
		return api.ErrMany
	}
	if f := g.do(pick); f.Kind != api.NoFault {
		g.Memory.Drop(pick)
		g.Procs[pick].State, g.Procs[pick].Fault = api.Killed, f
	}
	return api.OK
}

// Run: the picks step one behind the other; with an error the group is no more to be used.
func (g *Group) Run(picks []int) api.Errno {
	if len(picks) > api.MaxPicks {
		return api.ErrMany
	}
	for _, pick := range picks {
		if g.Step(pick) == api.ErrMany { // a pick that is no process's is passed over
			return api.ErrMany
		}
	}
	return api.OK
}

// do: with a fault the process is as it was.
func (g *Group) do(pick int) api.Fault {
	p := g.Procs[pick]
	code, f := g.Memory.Load(pick, p.Pc, instrSize, api.ToRun)
	if f.Kind != api.NoFault {
		return f
	}
	ask, _ := cpu.Ask(p, code) // eight bytes came
	before := len(g.Procs)
	value, f := g.answer(pick, ask)
	if f.Kind != api.NoFault {
		return f
	}
	g.done(pick, code, value)
	for child := before; child < len(g.Procs); child++ {
		g.done(child, code, 0)
	}
	return api.Fault{}
}

func (g *Group) done(pick int, code string, value int) {
	g.Procs[pick], _ = cpu.Done(g.Procs[pick], code, value) // a bad one is a fault ahead of this
}

// answer: what is asked for is done; what came of it.
func (g *Group) answer(pick int, a api.Ask) (int, api.Fault) {
	switch a.Kind {
	case api.AskLoad:
		s, f := g.Memory.Load(pick, a.Addr, a.Size, api.ToRead)
		value, _ := bits.Get(s) // with a fault nothing asks for it
		return value, f
	case api.AskStore:
		s, _ := bits.Put(a.Value, a.Size) // a size that may be
		return 0, g.Memory.Store(pick, a.Addr, s)
	case api.AskCall:
		return g.call(pick, a.Call), api.Fault{}
	case api.AskBad:
		return 0, api.Fault{Kind: api.FaultCode, Addr: g.Procs[pick].Pc}
	}
	return 0, api.Fault{}
}

// call: its answer; of CallOut and CallExit there is none.
func (g *Group) call(pick, call int) int {
	r := g.Procs[pick].Regs
	switch call {
	case api.CallOut:
		g.Out = append(g.Out, api.Word{Proc: pick, Value: r[0]})
	case api.CallMap:
		return int(g.Memory.Map(pick, r[0], r[1], r[2]))
	case api.CallUnmap:
		return int(g.Memory.Unmap(pick, r[0], r[1]))
	case api.CallProtect:
		return int(g.Memory.Protect(pick, r[0], r[1], r[2]))
	case api.CallFork:
		return g.fork(pick)
	case api.CallExit:
		g.Memory.Drop(pick)
	}
	return 0
}

// fork: the new process still has the instruction ahead of it, as the other one does.
func (g *Group) fork(pick int) int {
	if g.Memory.Fork(pick) != api.OK {
		return -1
	}
	g.Procs = append(g.Procs, g.Procs[pick])
	return len(g.Procs) - 1
}
