package proc_test

import (
	"fmt"
	"math"
	"slices"
	"strings"
	"testing"

	"foliant/api"
	"foliant/proc"
)

// told is a memory that has nothing: it notes what it is asked for, and answers what it was told to.
type told struct {
	asked       []string
	code, bytes string
	run, other  api.Fault
	err         api.Errno
}

func (m *told) note(format string, a ...any) { m.asked = append(m.asked, fmt.Sprintf(format, a...)) }

func (m *told) Load(space, addr, size, way int) (string, api.Fault) {
	m.note("load %d %d %d %d", space, addr, size, way)
	if way == api.ToRun {
		return m.code, m.run
	}
	return m.bytes, m.other
}

func (m *told) Store(space, addr int, s string) api.Fault {
	m.note("store %d %d %x", space, addr, s)
	return m.other
}

func (m *told) Map(space, page, pages, prot int) api.Errno {
	m.note("map %d %d %d %d", space, page, pages, prot)
	return m.err
}

func (m *told) Unmap(space, page, pages int) api.Errno {
	m.note("unmap %d %d %d", space, page, pages)
	return m.err
}

func (m *told) Protect(space, page, pages, prot int) api.Errno {
	m.note("protect %d %d %d %d", space, page, pages, prot)
	return m.err
}

func (m *told) Fork(space int) api.Errno {
	m.note("fork %d", space)
	return m.err
}

func (m *told) Drop(space int) { m.note("drop %d", space) }

func code(i api.Instr) string {
	return string([]byte{byte(i.Op), byte(i.A), byte(i.B), byte(i.C), byte(i.Imm), byte(i.Imm >> 8), byte(i.Imm >> 16), byte(i.Imm >> 24)})
}

func call(n int) string { return code(api.Instr{Op: api.OpCall, Imm: n}) }

// second: the process that steps in these tests; a first one has exited.
func second() api.Proc {
	return api.Proc{Regs: [api.Regs]int{30, 31, 32, -33}, Pc: 64, State: api.Running}
}

func group(m proc.Memory) *proc.Group {
	return &proc.Group{Memory: m, Procs: []api.Proc{{State: api.Exited}, second()}, Out: []api.Word{{Proc: 0, Value: 5}}}
}

func turned(turn func(*api.Proc)) api.Proc {
	p := second()
	turn(&p)
	return p
}

func killed(kind, addr int) api.Proc {
	return turned(func(p *api.Proc) { p.State, p.Fault = api.Killed, api.Fault{Kind: kind, Addr: addr} })
}

func answered(n int) api.Proc {
	return turned(func(p *api.Proc) { p.Pc, p.Regs[0] = 72, n })
}

// G3, G4: whatever the memory is, it is asked for what the instruction asks for, in order, and for nothing else; what it answers is what the process gets.
func TestWhatMemoryIsAskedFor(t *testing.T) {
	noMap, noRight := api.Fault{Kind: api.FaultMap, Addr: 9}, api.Fault{Kind: api.FaultRight, Addr: 8}
	for _, c := range []struct {
		name  string
		m     told
		asked string
		want  []api.Proc // from the second one on
		out   []api.Word // behind the first one
	}{
		{"set", told{code: code(api.Instr{Op: api.OpSet, Imm: 7})}, "", []api.Proc{answered(7)}, nil},
		{"no code", told{run: noMap}, "drop 1", []api.Proc{killed(api.FaultMap, 9)}, nil},
		{"bad", told{code: "\xff\x00\x00\x00\x00\x00\x00\x00"}, "drop 1", []api.Proc{killed(api.FaultCode, 64)}, nil},
		{"load", told{code: code(api.Instr{Op: api.OpLoad, A: 0, B: 1, C: 2, Imm: 3}), bytes: "\x01\x02"}, "load 1 34 2 0", []api.Proc{answered(513)}, nil},
		{"load of a sign", told{code: code(api.Instr{Op: api.OpLoad, A: 0, B: 1, C: 8, Imm: 3}), bytes: "\xfe\xff\xff\xff\xff\xff\xff\xff"}, "load 1 34 8 0", []api.Proc{answered(-2)}, nil},
		{"load, a fault", told{code: code(api.Instr{Op: api.OpLoad, A: 0, B: 1, C: 2, Imm: 3}), bytes: "\x01\x02", other: noMap}, "load 1 34 2 0, drop 1", []api.Proc{killed(api.FaultMap, 9)}, nil},
		{"store", told{code: code(api.Instr{Op: api.OpStore, A: 3, B: 0, C: 2})}, "store 1 30 dfff", []api.Proc{answered(30)}, nil},
		{"store, a fault", told{code: code(api.Instr{Op: api.OpStore, A: 3, B: 0, C: 1}), other: noRight}, "store 1 30 df, drop 1", []api.Proc{killed(api.FaultRight, 8)}, nil},
		{"out", told{code: call(api.CallOut)}, "", []api.Proc{answered(30)}, []api.Word{{Proc: 1, Value: 30}}},
		{"map", told{code: call(api.CallMap)}, "map 1 30 31 32", []api.Proc{answered(0)}, nil},
		{"map, no room", told{code: call(api.CallMap), err: api.ErrRoom}, "map 1 30 31 32", []api.Proc{answered(8)}, nil},
		{"unmap", told{code: call(api.CallUnmap), err: api.ErrRange}, "unmap 1 30 31", []api.Proc{answered(3)}, nil},
		{"protect", told{code: call(api.CallProtect), err: api.ErrNone}, "protect 1 30 31 32", []api.Proc{answered(6)}, nil},
		{"fork", told{code: call(api.CallFork)}, "fork 1", []api.Proc{answered(2), answered(0)}, nil},
		{"fork, too many", told{code: call(api.CallFork), err: api.ErrMany}, "fork 1", []api.Proc{answered(-1)}, nil},
		{"fork, no room", told{code: call(api.CallFork), err: api.ErrRoom}, "fork 1", []api.Proc{answered(-1)}, nil},
		{"exit", told{code: call(api.CallExit)}, "drop 1", []api.Proc{turned(func(p *api.Proc) { p.Pc, p.State, p.Code = 72, api.Exited, 30 })}, nil},
	} {
		g := group(&c.m)
		err := g.Step(1)
		asked := strings.TrimSuffix("load 1 64 8 2, "+c.asked, ", ")
		if got := strings.Join(c.m.asked, ", "); err != api.OK || got != asked {
			t.Errorf("%s: asked for %s, %d; must be %s", c.name, got, err, asked)
		}
		if !slices.Equal(g.Procs, append([]api.Proc{{State: api.Exited}}, c.want...)) {
			t.Errorf("%s: %v, must be %v behind the first one", c.name, g.Procs, c.want)
		}
		if !slices.Equal(g.Out, append([]api.Word{{Proc: 0, Value: 5}}, c.out...)) {
			t.Errorf("%s: told %v, must be %v behind the first one", c.name, g.Out, c.out)
		}
	}
}

// G3: with an error, or of a process that is not Running, memory is not asked.
func TestStepThatDoesNothing(t *testing.T) {
	m := &told{code: call(api.CallOut)}
	g := group(m)
	for _, pick := range []int{-1, 2, 3, math.MinInt, math.MaxInt} {
		if err := g.Step(pick); err != api.ErrNone {
			t.Errorf("Step of %d: %d", pick, err)
		}
	}
	if err := g.Step(0); err != api.OK {
		t.Errorf("Step of one that has exited: %d", err)
	}
	g.Out = make([]api.Word, api.MaxPicks)
	if err := g.Step(1); err != api.ErrMany {
		t.Errorf("Step with MaxPicks words: %d", err)
	}
	if err := g.Step(0); err != api.OK {
		t.Errorf("Step of one that has exited, with MaxPicks words: %d", err)
	}
	if len(m.asked) != 0 || g.Procs[1] != second() || len(g.Out) != api.MaxPicks {
		t.Errorf("something was done: %v, %v, %d words", m.asked, g.Procs, len(g.Out))
	}
}

// G5
func TestRun(t *testing.T) {
	m := &told{code: call(api.CallOut)}
	g := group(m)
	if err := g.Run([]int{1, 0, -1, 2, 1, math.MaxInt, math.MinInt, 1}); err != api.OK || len(g.Out) != 4 || g.Procs[1].Pc != 64+3*8 {
		t.Errorf("Run: %d, %v, %v", err, g.Out, g.Procs)
	}
	if err := g.Run(make([]int, api.MaxPicks)); err != api.OK {
		t.Errorf("Run of MaxPicks picks: %d", err)
	}
	if err := g.Run(slices.Repeat([]int{1}, api.MaxPicks-4)); err != api.OK || len(g.Out) != api.MaxPicks {
		t.Errorf("Run up to MaxPicks words: %d, %d words", err, len(g.Out))
	}
	if err := g.Run([]int{-1, 0, 7}); err != api.OK {
		t.Errorf("Run of none that is Running: %d", err)
	}
	if err := g.Run([]int{-1, 0, 1}); err != api.ErrMany {
		t.Errorf("Run with MaxPicks words: %d", err)
	}
	if err := group(m).Run(make([]int, api.MaxPicks+1)); err != api.ErrMany {
		t.Errorf("Run of more than MaxPicks picks: %d", err)
	}
}

// G2
func TestBegin(t *testing.T) {
	if p := proc.Begin(48); p != (api.Proc{Pc: 48, State: api.Running}) {
		t.Errorf("Begin: %v", p)
	}
}

// G1: which processes and words are right. (Package flat has the rest of it.)
func TestRight(t *testing.T) {
	fault := api.Fault{Kind: api.FaultMap}
	for _, c := range []struct {
		p    api.Proc
		live bool
		want bool
	}{
		{api.Proc{State: api.Running, Pc: -3, Regs: [api.Regs]int{math.MinInt}}, true, true},
		{api.Proc{State: api.Running}, false, false},
		{api.Proc{State: api.Running, Code: 1}, true, false},
		{api.Proc{State: api.Running, Fault: fault}, true, false},
		{api.Proc{State: api.Running, Fault: api.Fault{Addr: 1}}, true, false},
		{api.Proc{State: api.Exited, Code: -1}, false, true},
		{api.Proc{State: api.Exited}, false, true},
		{api.Proc{State: api.Exited}, true, false},
		{api.Proc{State: api.Exited, Fault: fault}, false, false},
		{api.Proc{State: api.Exited, Fault: api.Fault{Addr: -1}}, false, false},
		{api.Proc{State: api.Killed, Fault: fault}, false, true},
		{api.Proc{State: api.Killed, Fault: fault}, true, false},
		{api.Proc{State: api.Killed, Fault: fault, Code: 1}, false, false},
		{api.Proc{State: api.Killed}, false, false},
		{api.Proc{State: api.Killed, Fault: api.Fault{Kind: api.FaultCode, Addr: math.MinInt}}, false, true},
		{api.Proc{State: api.Killed, Fault: api.Fault{Kind: api.FaultCode + 1}}, false, false},
		{api.Proc{State: api.Killed, Fault: api.Fault{Kind: -1}}, false, false},
		{api.Proc{}, false, false}, {api.Proc{}, true, false}, {api.Proc{State: 4}, false, false}, {api.Proc{State: -1}, true, false},
	} {
		live := func(n int) bool { return n == 0 || n == 1 && c.live }
		if ok := proc.Right([]api.Proc{proc.Begin(8), c.p}, nil, live); ok != c.want {
			t.Errorf("%v, live %v: %v", c.p, c.live, ok)
		}
	}
	for n, want := range map[int]bool{0: true, 1: true, 2: false, -1: false, math.MaxInt: false, math.MinInt: false} {
		if ok := proc.Right([]api.Proc{{State: api.Exited}, {State: api.Exited}}, []api.Word{{Proc: 1}, {Proc: n}}, func(int) bool { return false }); ok != want {
			t.Errorf("a word of process %d: %v", n, ok)
		}
	}
}
