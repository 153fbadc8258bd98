package machine_test

import (
	"fmt"
	"slices"
	"testing"
	"unsafe"

	"foliant/api"
	"foliant/kernel"
	"foliant/machine"
)

// room is where a list lies, its spare room too.
type room struct {
	name       string
	begin, end uintptr
}

func roomOf[T any](name string, l []T) room {
	begin := uintptr(unsafe.Pointer(unsafe.SliceData(l)))
	var one T
	return room{name, begin, begin + uintptr(cap(l))*unsafe.Sizeof(one)}
}

// roomsOf: of all lists of a machine that have any room.
func roomsOf(name string, m api.Machine) []room {
	k := m.Kernel
	l := []room{roomOf(name+" Procs", m.Procs), roomOf(name+" Out", m.Out), roomOf(name+" Sheets", k.Sheets), roomOf(name+" Frames", k.Frames), roomOf(name+" Slots", k.Slots), roomOf(name+" Spaces", k.Spaces)}
	for _, s := range k.Sheets {
		l = append(l, roomOf(fmt.Sprint(name, " Fixes of ", s.Page), s.Fixes))
	}
	for n, s := range k.Spaces {
		l = append(l, roomOf(fmt.Sprint(name, " Areas of ", n), s.Areas), roomOf(fmt.Sprint(name, " Entries of ", n), s.Entries))
	}
	return slices.DeleteFunc(l, func(r room) bool { return r.begin == r.end })
}

func apart(t *testing.T, name string, l []room) {
	t.Helper()
	for n, a := range l {
		for _, b := range l[:n] {
			if a.begin < b.end && b.begin < a.end {
				t.Errorf("%s: %s and %s share memory", name, a.name, b.name)
			}
		}
	}
}

func spare[T any](l []T, with T) []T {
	return append(slices.Clone(l), slices.Repeat([]T{with}, 20)...)[:len(l)]
}

// roomy: the machine, with spare room behind each list that must not be touched.
func roomy(m api.Machine) api.Machine {
	m.Procs = spare(m.Procs, api.Proc{State: -7})
	m.Out = spare(m.Out, api.Word{Proc: -7})
	k := &m.Kernel
	k.Sheets = spare(k.Sheets, api.Sheet{Page: -7})
	k.Frames = spare(k.Frames, api.Frame{Refs: -7})
	k.Slots = spare(k.Slots, api.Slot{Refs: -7})
	k.Spaces = spare(k.Spaces, api.Space{Live: true})
	for n := range k.Sheets {
		k.Sheets[n].Fixes = spare(k.Sheets[n].Fixes, api.Fix{Off: -7})
	}
	for n := range k.Spaces {
		k.Spaces[n].Areas = spare(k.Spaces[n].Areas, api.Area{Page: -7})
		k.Spaces[n].Entries = spare(k.Spaces[n].Entries, api.Entry{Page: -7})
	}
	return m
}

// shown: the machine with all of its rooms.
func shown(m api.Machine) string {
	k := m.Kernel
	s := fmt.Sprint(m.Procs[:cap(m.Procs)], m.Out[:cap(m.Out)], k.Sheets[:cap(k.Sheets)], k.Frames[:cap(k.Frames)], k.Slots[:cap(k.Slots)], k.Spaces[:cap(k.Spaces)], k.Hand)
	for _, x := range k.Sheets {
		s += fmt.Sprint(x.Fixes[:cap(x.Fixes)])
	}
	for _, x := range k.Spaces {
		s += fmt.Sprint(x.Areas[:cap(x.Areas)], x.Entries[:cap(x.Entries)])
	}
	return s
}

// wipe changes all lists of a machine.
func wipe(m api.Machine) {
	for _, s := range m.Kernel.Sheets {
		clear(s.Fixes)
	}
	for _, s := range m.Kernel.Spaces {
		clear(s.Areas)
		clear(s.Entries)
	}
	clear(m.Kernel.Sheets)
	clear(m.Kernel.Frames)
	clear(m.Kernel.Slots)
	clear(m.Kernel.Spaces)
	clear(m.Procs)
	clear(m.Out)
}

// pair: two processes of which the first one does that; pages are in frames and in slots, and shared.
func pair(t *testing.T, i api.Instr, regs []int) api.Machine {
	t.Helper()
	m := start(t, 3, 60, regs, i)
	for _, addr := range []int{80, 104, 144} {
		m.Kernel, _, _ = kernel.Store(m.Kernel, 0, addr, "+")
	}
	k, _, err := kernel.Fork(m.Kernel, 0)
	if err != api.OK {
		t.Fatalf("Fork: %d", err)
	}
	k, _, _ = kernel.Store(k, 1, 104, "-")
	return api.Machine{Kernel: k, Procs: append(m.Procs, m.Procs[0]), Out: []api.Word{{Proc: 1, Value: 7}}}
}

// P2, P3: Step and Run only read the machine, the room behind its lists too, keep nothing of it, and answer the same again; no two lists of an answer share memory.
func TestMachinesAreOnlyRead(t *testing.T) {
	calls := map[string]func(api.Machine) (api.Machine, api.Errno){
		"Step":           func(m api.Machine) (api.Machine, api.Errno) { return machine.Step(m, 0) },
		"Run":            func(m api.Machine) (api.Machine, api.Errno) { return machine.Run(m, []int{0, 1, 2, 0, 3, 1}) },
		"Run of nothing": func(m api.Machine) (api.Machine, api.Errno) { return machine.Run(m, nil) },
		"Run of no one":  func(m api.Machine) (api.Machine, api.Errno) { return machine.Run(m, []int{-1}) },
	}
	for _, c := range append(asks, asking{name: "fork", i: call(api.CallFork)}) {
		for name, do := range calls {
			m := roomy(pair(t, c.i, c.regs))
			before := shown(m)
			a, err := do(m)
			if err != api.OK || shown(m) != before {
				t.Fatalf("%s of %s: %d, or it changed what was handed in", name, c.name, err)
			}
			if b, err := do(m); err != api.OK || !equal(a, b) {
				t.Errorf("%s of %s: another answer the second time", name, c.name)
			}
			apart(t, name+" of "+c.name, append(roomsOf("what came in:", m), roomsOf("the answer:", a)...))
			kept := copyOf(a)
			wipe(m)
			if !equal(a, kept) {
				t.Errorf("%s of %s: a later change is seen", name, c.name)
			}
		}
	}
}

// P2: one that is not Running is answered in new memory too; with an error all is left as it was.
func TestMachinesThatStayAreNew(t *testing.T) {
	m := roomy(sample())
	before := shown(m)
	for _, pick := range []int{1, 2} {
		a, err := machine.Step(m, pick)
		if err != api.OK || shown(m) != before {
			t.Fatalf("Step of %d: %d, or it changed what was handed in", pick, err)
		}
		apart(t, "Step", append(roomsOf("what came in:", m), roomsOf("the answer:", a)...))
		wipe(a)
	}
	machine.Check(m)
	machine.Step(m, 4)
	machine.Run(m, make([]int, api.MaxPicks+1))
	if shown(m) != before {
		t.Error("what was handed in is another")
	}
}

// P2: picks are only read.
func TestPicksAreOnlyRead(t *testing.T) {
	picks := spare([]int{0, 1, -1, 9}, -7)
	before := fmt.Sprint(picks[:cap(picks)])
	if _, err := machine.Run(pair(t, call(api.CallFork), nil), picks); err != api.OK {
		t.Fatal(err)
	}
	if fmt.Sprint(picks[:cap(picks)]) != before {
		t.Error("the picks are others")
	}
}

// P2, P3: New too.
func TestWhatIsLinkedIsOnlyRead(t *testing.T) {
	l := program(set(1, 5))
	l.Areas = spare(l.Areas, api.Area{Page: -7})
	l.Sheets = spare(l.Sheets, api.Sheet{Page: -7})
	for n := range l.Sheets {
		l.Sheets[n].Fixes = spare(l.Sheets[n].Fixes, api.Fix{Off: -7})
	}
	all := func() string {
		s := fmt.Sprint(l.Areas[:cap(l.Areas)], l.Sheets[:cap(l.Sheets)], l.Entry)
		for _, x := range l.Sheets {
			s += fmt.Sprint(x.Fixes[:cap(x.Fixes)])
		}
		return s
	}
	before := all()
	m, err := machine.New(l, 3, 20)
	if err != api.OK || all() != before {
		t.Fatalf("New: %d, or it changed what was handed in", err)
	}
	rooms := append(roomsOf("the machine:", m), roomOf("linked Areas", l.Areas), roomOf("linked Sheets", l.Sheets))
	for _, s := range l.Sheets {
		rooms = append(rooms, roomOf("linked Fixes", s.Fixes))
	}
	apart(t, "New", rooms)
	for _, s := range l.Sheets {
		clear(s.Fixes)
	}
	clear(l.Sheets)
	clear(l.Areas)
	is(t, "New", m, start(t, 3, 20, nil, set(1, 5)))
}

// P2: lists without elements may be nil or not.
func TestEmptyListsAreNilOrNot(t *testing.T) {
	none := turned(sample(), func(m *api.Machine) {
		m.Out = nil
		m.Kernel.Spaces[0] = api.Space{Live: true}
		m.Kernel.Frames[0].Refs, m.Kernel.Slots[13].Refs, m.Kernel.Frames[3] = 1, 1, api.Frame{}
	})
	full := turned(none, func(m *api.Machine) {
		m.Out = []api.Word{}
		for n, s := range m.Kernel.Spaces {
			if len(s.Areas) == 0 {
				m.Kernel.Spaces[n].Areas, m.Kernel.Spaces[n].Entries = []api.Area{}, []api.Entry{}
			}
		}
		for n, s := range m.Kernel.Sheets {
			if len(s.Fixes) == 0 {
				m.Kernel.Sheets[n].Fixes = []api.Fix{}
			}
		}
	})
	if a, b := machine.Check(full), machine.Check(none); a != api.OK || b != api.OK {
		t.Fatalf("Check: %d, %d", a, b)
	}
	for pick := range 4 {
		is(t, "Step", steps(t, full, pick), steps(t, none, pick))
	}
	is(t, "Run", run(t, full), run(t, none, []int{}...))
}
