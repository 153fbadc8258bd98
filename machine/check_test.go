package machine_test

import (
	"slices"
	"testing"

	"foliant/api"
	"foliant/kernel"
	"foliant/machine"
)

// sample: a machine that no call has answered: of its four processes one has exited, one is killed; the two that run share a frame and a slot, and have others of their own.
func sample() api.Machine {
	areas := []api.Area{{Page: 1, Pages: 4, Prot: 2}, {Page: 5, Pages: 2, Prot: 1}, {Page: 255, Pages: 1, Prot: 1, Zero: true}}
	k := api.Kernel{
		Sheets: program(set(1, 5), call(api.CallOut)).Sheets,
		Frames: []api.Frame{{Data: "sixteen letters.", Refs: 2, Dirty: true}, {Data: code(set(1, 5), call(api.CallOut)), Refs: 1, Seen: true}, {}, {Data: zeros, Refs: 1, Dirty: true, Seen: true}},
		Slots:  make([]api.Slot, 14),
		Spaces: []api.Space{
			{Live: true, Areas: areas, Entries: []api.Entry{{Page: 5, Kind: api.Present, At: 0}, {Page: 6, Kind: api.Swapped, At: 13}, {Page: 255, Kind: api.Present, At: 3}}}, {}, {},
			{Live: true, Areas: areas, Entries: []api.Entry{{Page: 1, Kind: api.Present, At: 1}, {Page: 5, Kind: api.Present, At: 0}, {Page: 6, Kind: api.Swapped, At: 13}, {Page: 255, Kind: api.Swapped, At: 4}}}},
		Hand: 2,
	}
	k.Slots[13], k.Slots[4] = api.Slot{Data: "letters, sixteen", Refs: 2}, api.Slot{Data: "zeros no longer.", Refs: 1}
	return copyOf(api.Machine{
		Kernel: k,
		Procs:  []api.Proc{{State: api.Running, Pc: -3, Regs: [api.Regs]int{least, greatest}}, {State: api.Exited, Code: -5}, {State: api.Killed, Fault: api.Fault{Kind: 2, Addr: -9}}, {State: api.Running, Pc: 16}},
		Out:    []api.Word{{Proc: 3, Value: least}, {Proc: 0}, {Proc: 1}, {Proc: 2}},
	})
}

// checks: the sample, one thing of it another, and what Check says of that.
var checks = []struct {
	name string
	turn func(m *api.Machine)
	want api.Errno
}{
	{"as it is", func(m *api.Machine) {}, api.OK},
	{"no words", func(m *api.Machine) { m.Out = nil }, api.OK},
	{"as many words as may be", func(m *api.Machine) { m.Out = make([]api.Word, api.MaxPicks) }, api.OK},
	{"a Live space without areas", func(m *api.Machine) {
		*m = api.Machine{Kernel: api.Kernel{Frames: make([]api.Frame, 3), Spaces: []api.Space{{Live: true}}}, Procs: m.Procs[:1]}
	}, api.OK},
	{"none Live, no slots", func(m *api.Machine) {
		*m = api.Machine{Kernel: api.Kernel{Frames: make([]api.Frame, 3), Spaces: []api.Space{{}, {}}}, Procs: m.Procs[1:3]}
	}, api.OK},
	{"Exited with 0", func(m *api.Machine) { m.Procs[1].Code = 0 }, api.OK},
	{"killed: FaultMap", func(m *api.Machine) { m.Procs[2].Fault = api.Fault{Kind: api.FaultMap} }, api.OK},
	{"killed: FaultAlign", func(m *api.Machine) { m.Procs[2].Fault = api.Fault{Kind: api.FaultAlign, Addr: greatest} }, api.OK},
	{"killed: FaultCode", func(m *api.Machine) { m.Procs[2].Fault = api.Fault{Kind: api.FaultCode, Addr: least} }, api.OK},
	{"registers and Pc of one that is not Running", func(m *api.Machine) { m.Procs[1].Pc, m.Procs[1].Regs[7] = greatest, least }, api.OK},
	{"more frames, more slots", func(m *api.Machine) {
		m.Kernel.Frames, m.Kernel.Slots = append(m.Kernel.Frames, make([]api.Frame, 60)...), append(m.Kernel.Slots, make([]api.Slot, 498)...)
	}, api.OK},

	{"nothing at all", func(m *api.Machine) { *m = api.Machine{} }, api.ErrMany},
	{"two frames", func(m *api.Machine) { m.Kernel.Frames = m.Kernel.Frames[:2] }, api.ErrMany},
	{"65 frames", func(m *api.Machine) { m.Kernel.Frames = append(m.Kernel.Frames, make([]api.Frame, 61)...) }, api.ErrMany},
	{"513 slots", func(m *api.Machine) { m.Kernel.Slots = append(m.Kernel.Slots, make([]api.Slot, 499)...) }, api.ErrMany},
	{"256 sheets", func(m *api.Machine) { m.Kernel.Sheets = make([]api.Sheet, 256) }, api.ErrMany},
	{"no spaces, no processes", func(m *api.Machine) { m.Kernel.Spaces, m.Procs, m.Out = nil, nil, nil }, api.ErrMany},
	{"five spaces, five processes", func(m *api.Machine) {
		m.Kernel.Spaces, m.Procs = append(m.Kernel.Spaces, api.Space{}), append(m.Procs, api.Proc{State: api.Exited})
	}, api.ErrMany},
	{"five spaces, and what is not right else", func(m *api.Machine) {
		m.Kernel.Spaces, m.Kernel.Hand, m.Out[0].Proc = append(m.Kernel.Spaces, api.Space{}), -1, -1
	}, api.ErrMany},

	{"no such hand", func(m *api.Machine) { m.Kernel.Hand = 4 }, api.ErrForm},
	{"a sheet that is not right", func(m *api.Machine) { m.Kernel.Sheets[3].Data = "short" }, api.ErrForm},
	{"a page without a sheet", func(m *api.Machine) { m.Kernel.Sheets = m.Kernel.Sheets[1:] }, api.ErrForm},
	{"one slot too few", func(m *api.Machine) {
		m.Kernel.Slots[12] = m.Kernel.Slots[13]
		m.Kernel.Slots, m.Kernel.Spaces[0].Entries[1].At, m.Kernel.Spaces[3].Entries[2].At = m.Kernel.Slots[:13], 12, 12
	}, api.ErrForm},
	{"a frame's Refs", func(m *api.Machine) { m.Kernel.Frames[0].Refs = 1 }, api.ErrForm},
	{"a frame that none names", func(m *api.Machine) { m.Kernel.Frames[2].Seen = true }, api.ErrForm},
	{"a frame that is not what its page is filled with", func(m *api.Machine) { m.Kernel.Frames[0].Dirty = false }, api.ErrForm},
	{"a slot's bytes", func(m *api.Machine) { m.Kernel.Slots[4].Data = "" }, api.ErrForm},
	{"a space that is not Live, with areas", func(m *api.Machine) { m.Kernel.Spaces[1].Areas = []api.Area{{Page: 9, Pages: 1, Zero: true}} }, api.ErrForm},
	{"more areas than may be", func(m *api.Machine) { m.Kernel.Spaces[0].Areas = make([]api.Area, 256) }, api.ErrForm},
	{"a kernel that is not right, and too many words", func(m *api.Machine) {
		m.Kernel.Hand, m.Out = 4, make([]api.Word, api.MaxPicks+1)
	}, api.ErrForm},

	{"one word more than may be", func(m *api.Machine) { m.Out = make([]api.Word, api.MaxPicks+1) }, api.ErrMany},
	{"very many words", func(m *api.Machine) { m.Out = make([]api.Word, 100000) }, api.ErrMany},
	{"too many words, of no process", func(m *api.Machine) {
		m.Out = slices.Repeat([]api.Word{{Proc: 4}}, api.MaxPicks+1)
	}, api.ErrMany},
	{"too many words, and no such State", func(m *api.Machine) {
		m.Out, m.Procs[0].State = make([]api.Word, api.MaxPicks+1), 0
	}, api.ErrMany},
	{"too many words, and one process less", func(m *api.Machine) {
		m.Out, m.Procs = make([]api.Word, api.MaxPicks+1), m.Procs[:3]
	}, api.ErrMany},

	{"one process less", func(m *api.Machine) { m.Procs, m.Out = m.Procs[:3], m.Out[1:] }, api.ErrForm},
	{"one process more", func(m *api.Machine) { m.Procs = append(m.Procs, api.Proc{State: api.Exited}) }, api.ErrForm},
	{"one process more, Running", func(m *api.Machine) { m.Procs = append(m.Procs, api.Proc{State: api.Running}) }, api.ErrForm},
	{"no process", func(m *api.Machine) { m.Procs, m.Out = nil, nil }, api.ErrForm},
	{"one process less, a word of it", func(m *api.Machine) { m.Procs = m.Procs[:3] }, api.ErrForm},
	{"very many processes", func(m *api.Machine) { m.Procs = make([]api.Proc, 10000) }, api.ErrForm},
	{"one space less", func(m *api.Machine) { m.Kernel.Spaces = slices.Delete(m.Kernel.Spaces, 1, 2) }, api.ErrForm},
	{"one space more", func(m *api.Machine) { m.Procs, m.Out = slices.Delete(m.Procs, 1, 2), nil }, api.ErrForm},

	{"State 0", func(m *api.Machine) { m.Procs[0].State = 0 }, api.ErrForm},
	{"State 0, not Live", func(m *api.Machine) { m.Procs[1] = api.Proc{} }, api.ErrForm},
	{"State 4", func(m *api.Machine) { m.Procs[0].State = 4 }, api.ErrForm},
	{"State 4, not Live", func(m *api.Machine) { m.Procs[2].State = 4 }, api.ErrForm},
	{"State -1", func(m *api.Machine) { m.Procs[3].State = -1 }, api.ErrForm},
	{"the greatest State", func(m *api.Machine) { m.Procs[3].State = greatest }, api.ErrForm},
	{"the least State", func(m *api.Machine) { m.Procs[1].State = least }, api.ErrForm},
	{"Code of a Running one", func(m *api.Machine) { m.Procs[3].Code = 1 }, api.ErrForm},
	{"Code of a Killed one", func(m *api.Machine) { m.Procs[2].Code = -1 }, api.ErrForm},
	{"Fault of a Running one", func(m *api.Machine) { m.Procs[0].Fault.Kind = 1 }, api.ErrForm},
	{"the place of a fault of a Running one", func(m *api.Machine) { m.Procs[0].Fault.Addr = 1 }, api.ErrForm},
	{"Fault of an Exited one", func(m *api.Machine) { m.Procs[1].Fault.Kind = 4 }, api.ErrForm},
	{"the place of a fault of an Exited one", func(m *api.Machine) { m.Procs[1].Fault.Addr = -1 }, api.ErrForm},
	{"no fault of a Killed one", func(m *api.Machine) { m.Procs[2].Fault.Kind = api.NoFault }, api.ErrForm},
	{"zero fault of a Killed one", func(m *api.Machine) { m.Procs[2].Fault = api.Fault{} }, api.ErrForm},
	{"a fault of no kind", func(m *api.Machine) { m.Procs[2].Fault.Kind = 5 }, api.ErrForm},
	{"a fault of a kind below 0", func(m *api.Machine) { m.Procs[2].Fault.Kind = -1 }, api.ErrForm},

	{"a Running one's space is not Live", func(m *api.Machine) { m.Procs[1] = api.Proc{State: api.Running} }, api.ErrForm},
	{"an Exited one's space is Live", func(m *api.Machine) { m.Procs[3].State = api.Exited }, api.ErrForm},
	{"a Killed one's space is Live", func(m *api.Machine) { m.Procs[0] = m.Procs[2] }, api.ErrForm},
	{"an Exited one's space is Live, and has nothing", func(m *api.Machine) { m.Kernel.Spaces[1].Live = true }, api.ErrForm},
	{"two processes, one in the place of the other", func(m *api.Machine) { m.Procs[0], m.Procs[1] = m.Procs[1], m.Procs[0] }, api.ErrForm},

	{"a word of process 4", func(m *api.Machine) { m.Out[3].Proc = 4 }, api.ErrForm},
	{"a word of process -1", func(m *api.Machine) { m.Out[0].Proc = -1 }, api.ErrForm},
	{"a word of the greatest process", func(m *api.Machine) { m.Out[2].Proc = greatest }, api.ErrForm},
	{"a word of the least process", func(m *api.Machine) { m.Out[2].Proc = least }, api.ErrForm},
	{"as many words as may be, the last one of no process", func(m *api.Machine) {
		m.Out = append(make([]api.Word, api.MaxPicks-1), api.Word{Proc: 4})
	}, api.ErrForm},
}

// H1: each of its points by itself; what kernel.Check says is told first.
func TestCheck(t *testing.T) {
	for _, c := range checks {
		m := turned(sample(), c.turn)
		if err := machine.Check(m); err != c.want {
			t.Errorf("%s: %d, must be %d", c.name, err, c.want)
		}
		if err := kernel.Check(m.Kernel); err != api.OK && err != c.want {
			t.Errorf("%s: %d, and of its kernel %d", c.name, c.want, err)
		}
	}
}

// H1, P1: Step and Run tell it first, whatever else they are handed.
func TestCheckIsToldFirst(t *testing.T) {
	many := make([]int, api.MaxPicks+1)
	for _, c := range checks {
		if c.want == api.OK {
			continue
		}
		m := turned(sample(), c.turn)
		for _, pick := range []int{0, 1, 3, 4, -1, least, greatest} {
			if n, err := machine.Step(m, pick); !isNone(n) || err != c.want {
				t.Errorf("%s: Step of %d: %v %d, must be %d", c.name, pick, n, err, c.want)
			}
		}
		for _, picks := range [][]int{nil, {0}, {-1}, many} {
			if n, err := machine.Run(m, picks); !isNone(n) || err != c.want {
				t.Errorf("%s: Run of %d picks: %v %d, must be %d", c.name, len(picks), n, err, c.want)
			}
		}
	}
}

// H1, H2: right ones that no call has answered go on as the flat machine does.
func TestMachinesThatNoCallAnswered(t *testing.T) {
	for _, c := range checks {
		m := turned(sample(), c.turn)
		if c.want != api.OK || len(m.Out) == api.MaxPicks {
			continue
		}
		f := flatOf(m)
		for _, pick := range []int{3, 1, 3, 0, 3, 2, 0} {
			m, f = inStep(t, m, f, pick)
		}
		peeked(t, m, f)
	}
}
