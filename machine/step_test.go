package machine_test

import (
	"testing"

	"foliant/api"
	"foliant/kernel"
	"foliant/machine"
)

// H1: the kernel is kernel.New's, and the process is at the entry.
func TestNew(t *testing.T) {
	l := program(set(1, 5))
	l.Entry = 24
	for _, c := range [][2]int{{3, 8}, {64, 512}, {5, 20}} {
		m, err := machine.New(l, c[0], c[1])
		if err != api.OK {
			t.Fatalf("New of %v: %d", c, err)
		}
		k := api.Kernel{Sheets: l.Sheets, Frames: make([]api.Frame, c[0]), Slots: make([]api.Slot, c[1]), Spaces: []api.Space{{Live: true, Areas: l.Areas}}}
		is(t, "New", m, api.Machine{Kernel: k, Procs: []api.Proc{{Pc: 24, State: api.Running}}})
	}
}

// H1, P1: kernel.New's errors, in its order.
func TestNewErrors(t *testing.T) {
	good, notRight := program(), program()
	notRight.Entry = 17
	tooMany := api.Linked{Areas: make([]api.Area, 256)}
	for _, c := range []struct {
		name          string
		l             api.Linked
		frames, slots int
		want          api.Errno
	}{
		{"nothing linked", api.Linked{}, 3, 9, api.ErrForm},
		{"nothing linked, no frames", api.Linked{}, 0, -1, api.ErrForm},
		{"not right", notRight, 3, 9, api.ErrForm},
		{"too many areas", tooMany, 3, 9, api.ErrMany},
		{"too many areas, no frames", tooMany, 0, 9, api.ErrMany},
		{"two frames", good, 2, 9, api.ErrSmall},
		{"two frames, no such slots", good, 2, -1, api.ErrSmall},
		{"no frames, no slots", good, 0, 0, api.ErrSmall},
		{"the least frames", good, least, 9, api.ErrSmall},
		{"too many frames", good, 65, 9, api.ErrRange},
		{"too many frames, no room", good, 65, 0, api.ErrRange},
		{"the greatest frames", good, greatest, 9, api.ErrRange},
		{"slots below 0", good, 3, -1, api.ErrRange},
		{"the least slots", good, 3, least, api.ErrRange},
		{"too many slots", good, 3, 513, api.ErrRange},
		{"the greatest slots", good, 3, greatest, api.ErrRange},
		{"no slots", good, 3, 0, api.ErrRoom},
		{"one slot too few", good, 64, pages - 1, api.ErrRoom},
		{"just enough", good, 3, pages, api.OK},
		{"as many as may be", good, 64, 512, api.OK},
	} {
		m, err := machine.New(c.l, c.frames, c.slots)
		if err != c.want || err != api.OK && !isNone(m) {
			t.Errorf("%s: %v %d, must be %d", c.name, m, err, c.want)
		}
		if _, of := kernel.New(c.l, c.frames, c.slots); of != err {
			t.Errorf("%s: %d, kernel.New says %d", c.name, err, of)
		}
		if err == api.OK && machine.Check(m) != api.OK {
			t.Errorf("%s: what comes is not right", c.name)
		}
	}
}

// asked: what a kernel is asked for behind the instruction's own bytes; false, if it is a fault.
type asked func(k api.Kernel) (api.Kernel, bool)

func nothing(k api.Kernel) (api.Kernel, bool) { return k, true }

func stops(k api.Kernel) (api.Kernel, bool) { return k, false }

func loads(addr, size int) asked {
	return func(k api.Kernel) (api.Kernel, bool) {
		n, _, f, err := kernel.Load(k, 0, addr, size, api.ToRead)
		return n, f.Kind == api.NoFault && err == api.OK
	}
}

func stores(addr int, s string) asked {
	return func(k api.Kernel) (api.Kernel, bool) {
		n, f, err := kernel.Store(k, 0, addr, s)
		return n, f.Kind == api.NoFault && err == api.OK
	}
}

func drops(k api.Kernel) (api.Kernel, bool) {
	n, err := kernel.Drop(k, 0)
	return n, err == api.OK
}

// asking is an instruction, its registers, what it asks of the kernel, and what is another of the process behind it (Pc aside).
type asking struct {
	name string
	i    api.Instr
	regs []int
	ask  asked
	turn func(p *api.Proc)
}

// asks: of a machine with 20 slots.
var asks = []asking{
	{"set", set(1, 5), nil, nothing, func(p *api.Proc) { p.Regs[1] = 5 }},
	{"load", load(3, 1, 0, 8), []int{0, 96}, loads(96, 8), func(p *api.Proc) { p.Regs[3] = -2 }},
	{"load over a page's end", load(3, 1, -1, 2), []int{0, 96}, loads(95, 2), func(p *api.Proc) { p.Regs[3] = 0xfeff }},
	{"load of what is run", load(3, 1, 0, 1), []int{0, 16}, loads(16, 1), func(p *api.Proc) { p.Regs[3] = api.OpLoad }},
	{"load that faults", load(3, 1, 0, 8), []int{0, 124}, stops, func(p *api.Proc) { p.Fault = api.Fault{Kind: api.FaultMap, Addr: 128} }},
	{"store", store(0, 1, 0, 2), []int{-2, 80}, stores(80, "\xfe\xff"), func(p *api.Proc) {}},
	{"store over a page's end", store(0, 1, 0, 4), []int{-2, 94}, stores(94, "\xfe\xff\xff\xff"), func(p *api.Proc) {}},
	{"store of eight bytes", store(0, 1, 8, 8), []int{0x0102030405060708, 144}, stores(152, "\x08\x07\x06\x05\x04\x03\x02\x01"), func(p *api.Proc) {}},
	{"store that faults", store(0, 1, 0, 8), []int{0, 108}, stops, func(p *api.Proc) { p.Fault = api.Fault{Kind: api.FaultRight, Addr: 112} }},
	{"a bad one", set(8, 1), nil, stops, func(p *api.Proc) { p.Fault = api.Fault{Kind: api.FaultCode, Addr: 16} }},
	{"out", call(api.CallOut), []int{9}, nothing, func(p *api.Proc) {}},
	{"map", call(api.CallMap), []int{10, 12, 3}, func(k api.Kernel) (api.Kernel, bool) {
		n, err := kernel.Map(k, 0, 10, 12, 3)
		return n, err == api.OK
	}, func(p *api.Proc) { p.Regs[0] = 0 }},
	{"map without room", call(api.CallMap), []int{10, 13, 3}, nothing, func(p *api.Proc) { p.Regs[0] = int(api.ErrRoom) }},
	{"map of what is there", call(api.CallMap), []int{5, 1, 3}, nothing, func(p *api.Proc) { p.Regs[0] = int(api.ErrThere) }},
	{"map with no such Prot", call(api.CallMap), []int{5, 1, 4}, nothing, func(p *api.Proc) { p.Regs[0] = int(api.ErrRange) }},
	{"unmap", call(api.CallUnmap), []int{1, 5}, func(k api.Kernel) (api.Kernel, bool) {
		n, err := kernel.Unmap(k, 0, 1, 5)
		return n, err == api.OK
	}, func(p *api.Proc) { p.Regs[0] = 0 }},
	{"unmap of page 0", call(api.CallUnmap), []int{0, 5}, nothing, func(p *api.Proc) { p.Regs[0] = int(api.ErrRange) }},
	{"protect", call(api.CallProtect), []int{4, 2, 1}, func(k api.Kernel) (api.Kernel, bool) {
		n, err := kernel.Protect(k, 0, 4, 2, 1)
		return n, err == api.OK
	}, func(p *api.Proc) { p.Regs[0] = 0 }},
	{"protect of the gap", call(api.CallProtect), []int{7, 2, 1}, nothing, func(p *api.Proc) { p.Regs[0] = int(api.ErrNone) }},
	{"exit", call(api.CallExit), []int{-7}, drops, func(p *api.Proc) { p.State, p.Code = api.Exited, -7 }},
}

// H1: a Step is Load of the instruction, to run, and then what it asks for, of the kernel's own calls, in this order; with a fault the space is dropped.
func TestStepIsWhatTheKernelDoes(t *testing.T) {
	for _, c := range asks {
		m := start(t, 3, 20, c.regs, c.i)
		for _, addr := range []int{80, 104, 144} { // all frames are named, and Seen
			m.Kernel, _, _ = kernel.Store(m.Kernel, 0, addr, "+")
		}
		k, _, _, err := kernel.Load(m.Kernel, 0, 16, 8, api.ToRun)
		if err != api.OK {
			t.Fatal(err)
		}
		want := copyOf(m)
		c.turn(&want.Procs[0])
		n, ok := c.ask(k)
		if !ok {
			n, _ = drops(k)
			want.Procs[0].State = api.Killed
		} else {
			want.Procs[0].Pc = 24
		}
		want.Kernel = n
		if c.i == call(api.CallOut) {
			want.Out = []api.Word{{Proc: 0, Value: 9}}
		}
		is(t, c.name, steps(t, m, 0), want)
	}
}

// H1: bytes that can't be run: nothing is asked of the kernel but that it drops the space.
func TestFaultsOfTheInstruction(t *testing.T) {
	for _, c := range []struct{ pc, kind int }{
		{17, api.FaultAlign}, {-4, api.FaultAlign}, {greatest, api.FaultAlign}, {0, api.FaultMap}, {-8, api.FaultMap}, {least, api.FaultMap}, {greatest - 7, api.FaultMap}, {128, api.FaultMap}, {4096, api.FaultMap}, {80, api.FaultRight}, {112, api.FaultRight},
	} {
		m := start(t, 3, 20, []int{1, 2, 3}, set(1, 1))
		m.Procs[0].Pc = c.pc
		m.Kernel, _, _ = kernel.Store(m.Kernel, 0, 80, "+")
		is(t, "a fault", steps(t, m, 0), turned(m, func(m *api.Machine) {
			m.Kernel, _ = kernel.Drop(m.Kernel, 0)
			m.Procs[0].State, m.Procs[0].Fault = api.Killed, api.Fault{Kind: c.kind, Addr: c.pc}
		}))
	}
}

// H1: the kernel's Fork; its number here, 0 there.
func TestFork(t *testing.T) {
	m := start(t, 3, 40, []int{80, 81}, call(api.CallFork), store(0, 0, 0, 8))
	m.Kernel, _, _ = kernel.Store(m.Kernel, 0, 144, "+")
	k, _, _, _ := kernel.Load(m.Kernel, 0, 16, 8, api.ToRun)
	k, _, err := kernel.Fork(k, 0)
	if err != api.OK {
		t.Fatal(err)
	}
	n := steps(t, m, 0)
	is(t, "Fork", n, turned(m, func(m *api.Machine) {
		m.Kernel = k
		m.Procs[0].Pc, m.Procs[0].Regs[0] = 24, 1
		m.Procs = append(m.Procs, m.Procs[0])
		m.Procs[1].Regs[0] = 0
	}))
}

// H1: -1, if there are MaxSpaces spaces, dead ones too, or the slots do not suffice; nothing is another then but what the instruction's own bytes brought.
func TestForkFails(t *testing.T) {
	few := start(t, 3, 15, []int{5}, call(api.CallFork))
	four := turned(start(t, 3, 100, []int{5}, call(api.CallFork)), func(m *api.Machine) {
		m.Kernel.Spaces = append(m.Kernel.Spaces, api.Space{}, api.Space{}, api.Space{})
		m.Procs = append(m.Procs, sample().Procs[1], sample().Procs[2], sample().Procs[1])
	})
	for name, m := range map[string]api.Machine{"one slot too few": few, "four spaces": four} {
		is(t, name, steps(t, m, 0), turned(m, func(m *api.Machine) {
			m.Kernel, _, _, _ = kernel.Load(m.Kernel, 0, 16, 8, api.ToRun)
			m.Procs[0].Pc, m.Procs[0].Regs[0] = 24, -1
		}))
	}
	just := steps(t, start(t, 3, 16, []int{5}, call(api.CallFork)), 0)
	if len(just.Procs) != 2 || just.Procs[0].Regs[0] != 1 {
		t.Errorf("just as many slots: %v", just.Procs)
	}
}

// H1, H2: what is stored behind a fork is not seen in the other space, with three frames, so that all comes and goes; a space that is dropped takes nothing from the others.
func TestSpacesDoNotSeeEachOther(t *testing.T) {
	m := start(t, 3, 60, []int{0, 92}, call(api.CallFork), store(0, 1, 0, 8), load(2, 1, 52, 8), load(3, 1, 0, 8), call(api.CallExit))
	first, second := "0X23456789ab", "\xff\xff\xff\xffmnopqrst"
	m = steps(t, m, 0)
	peek(t, m, 0, 5, first+"cde\xff")
	m = steps(t, m, 0, 0, 0)
	peek(t, m, 0, 5, first+"\x01\x00\x00\x00")
	peek(t, m, 0, 6, "\x00\x00\x00\x00"+second)
	peek(t, m, 1, 5, first+"cde\xff")
	peek(t, m, 1, 6, "\xfe\xff\xff\xff"+second)
	m = steps(t, m, 1, 1, 1)
	if a, b := m.Procs[0].Regs[3], m.Procs[1].Regs[3]; a != 1 || b != 0 {
		t.Errorf("%d and %d are loaded, must be 1 and 0", a, b)
	}
	m = steps(t, m, 1)
	if p := m.Procs[1]; p.State != api.Exited || m.Kernel.Spaces[1].Live {
		t.Errorf("it has not exited: %v", p)
	}
	peek(t, m, 0, 5, first+"\x01\x00\x00\x00")
	peek(t, m, 0, 9, "nine, nine, nine")
}

// H1, P1
func TestStepOfNoProcess(t *testing.T) {
	full := turned(sample(), func(m *api.Machine) { m.Out = make([]api.Word, api.MaxPicks) })
	for _, m := range []api.Machine{sample(), full} {
		for _, pick := range []int{-1, -2, 4, 5, least, greatest, least + 1} {
			if n, err := machine.Step(m, pick); !isNone(n) || err != api.ErrNone {
				t.Errorf("Step of %d: %v %d", pick, n, err)
			}
		}
	}
}

// H1: of one that is not Running nothing changes, however many words there are.
func TestStepOfOneThatIsNotRunning(t *testing.T) {
	for _, words := range []int{4, api.MaxPicks} {
		m := turned(sample(), func(m *api.Machine) { m.Out = append(m.Out, make([]api.Word, words-4)...) })
		for _, pick := range []int{1, 2} {
			is(t, "not Running", steps(t, m, pick), m)
		}
	}
}

// H1, P1: a Running one needs room for a word, whether it tells one or not, or would be killed.
func TestStepWithMaxPicksWords(t *testing.T) {
	for _, i := range []api.Instr{call(api.CallOut), set(1, 1), call(api.CallExit), {}} {
		m := start(t, 3, 20, []int{3}, i)
		m.Out = make([]api.Word, api.MaxPicks)
		if n, err := machine.Step(m, 0); !isNone(n) || err != api.ErrMany {
			t.Errorf("%v: %d words %d", i, len(n.Out), err)
		}
	}
	m := start(t, 3, 20, []int{3}, call(api.CallOut))
	m.Out = make([]api.Word, api.MaxPicks-1)
	if n := steps(t, m, 0); len(n.Out) != api.MaxPicks || n.Out[api.MaxPicks-1] != (api.Word{Proc: 0, Value: 3}) {
		t.Errorf("the last word that may be: %d words", len(n.Out))
	}
}
