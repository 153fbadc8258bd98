package flat_test

import (
	"fmt"
	"slices"
	"testing"
	"unsafe"

	"foliant/api"
	"foliant/flat"
)

// room is where a list lies, its spare room too.
type room struct {
	name       string
	begin, end uintptr
}

func roomOf[T any](name string, l []T) room {
	begin := uintptr(unsafe.Pointer(unsafe.SliceData(l)))
	var one T
	return room{name, begin, begin + uintptr(cap(l))*unsafe.Sizeof(one)}
}

// roomsOf: of all lists of a machine that have any room.
func roomsOf(name string, f api.Flat) []room {
	l := []room{roomOf(name+" Spaces", f.Spaces), roomOf(name+" Procs", f.Procs), roomOf(name+" Out", f.Out)}
	for n, s := range f.Spaces {
		l = append(l, roomOf(fmt.Sprint(name, " Areas of ", n), s.Areas), roomOf(fmt.Sprint(name, " Pages of ", n), s.Pages))
	}
	return slices.DeleteFunc(l, func(r room) bool { return r.begin == r.end })
}

func apart(t *testing.T, name string, l []room) {
	t.Helper()
	for n, a := range l {
		for _, b := range l[:n] {
			if a.begin < b.end && b.begin < a.end {
				t.Errorf("%s: %s and %s share memory", name, a.name, b.name)
			}
		}
	}
}

func spare[T any](l []T, with T) []T {
	return append(slices.Clone(l), slices.Repeat([]T{with}, 20)...)[:len(l)]
}

// roomy: the machine, with spare room behind each list that must not be touched.
func roomy(f api.Flat) api.Flat {
	f.Spaces = spare(f.Spaces, api.FlatSpace{Live: true})
	f.Procs = spare(f.Procs, api.Proc{State: -7})
	f.Out = spare(f.Out, api.Word{Proc: -7})
	for n := range f.Spaces {
		f.Spaces[n].Areas = spare(f.Spaces[n].Areas, api.Area{Page: -7})
		f.Spaces[n].Pages = spare(f.Spaces[n].Pages, api.FlatPage{Page: -7})
	}
	return f
}

// shown: the machine with all of its rooms.
func shown(f api.Flat) string {
	s := fmt.Sprintf("%d %v %v %v", f.Slots, f.Spaces[:cap(f.Spaces)], f.Procs[:cap(f.Procs)], f.Out[:cap(f.Out)])
	for _, x := range f.Spaces {
		s += fmt.Sprint(x.Areas[:cap(x.Areas)], x.Pages[:cap(x.Pages)])
	}
	return s
}

// doings: instructions that do each thing that may be done to a machine, with the registers for it.
var doings = []struct {
	i    api.Instr
	regs []int
}{
	{set(1, 5), nil},
	{load(1, 1, 0, 8), []int{0, 92}},
	{store(0, 1, 0, 8), []int{-3, 92}},
	{store(0, 1, 0, 8), []int{-3, 108}},
	{call(api.CallOut), []int{4}},
	{call(api.CallMap), []int{8, 1, 1}},
	{call(api.CallMap), []int{10, 3, 3}},
	{call(api.CallMap), []int{10, 200, 3}},
	{call(api.CallUnmap), []int{6, 4}},
	{call(api.CallProtect), []int{5, 1, 0}},
	{call(api.CallFork), nil},
	{call(api.CallExit), nil},
	{api.Instr{}, nil},
}

// pair: two processes of which the first one does that.
func pair(t *testing.T, i api.Instr, regs []int) api.Flat {
	t.Helper()
	return turned(start(t, 60, regs, i), func(f *api.Flat) {
		f.Spaces = append(f.Spaces, copyOf(*f).Spaces[0])
		f.Procs = append(f.Procs, f.Procs[0])
		f.Out = []api.Word{{Proc: 1, Value: 7}}
	})
}

// P2, P3: Step and Run only read the machine, the room behind its lists too, keep nothing of it, and answer the same again; no two lists of an answer share memory.
func TestMachinesAreOnlyRead(t *testing.T) {
	for _, d := range doings {
		for name, do := range map[string]func(api.Flat) (api.Flat, api.Errno){
			"Step":           func(f api.Flat) (api.Flat, api.Errno) { return flat.Step(f, 0) },
			"Run":            func(f api.Flat) (api.Flat, api.Errno) { return flat.Run(f, []int{0, 1, 2, 0, 3, 1}) },
			"Run of nothing": func(f api.Flat) (api.Flat, api.Errno) { return flat.Run(f, nil) },
			"Run of no one":  func(f api.Flat) (api.Flat, api.Errno) { return flat.Run(f, []int{-1}) },
		} {
			f := roomy(pair(t, d.i, d.regs))
			before := shown(f)
			a, err := do(f)
			if err != api.OK || shown(f) != before {
				t.Fatalf("%s of %v: %d, or it changed what was handed in", name, d.i, err)
			}
			if b, err := do(f); err != api.OK || !equal(a, b) {
				t.Errorf("%s of %v: another answer the second time", name, d.i)
			}
			apart(t, name, append(roomsOf("what came in:", f), roomsOf("the answer:", a)...))
			kept := copyOf(a)
			for n := range f.Spaces {
				clear(f.Spaces[n].Areas)
				clear(f.Spaces[n].Pages)
			}
			clear(f.Spaces)
			clear(f.Procs)
			clear(f.Out)
			if !equal(a, kept) {
				t.Errorf("%s of %v: a later change is seen", name, d.i)
			}
		}
	}
}

// P2: one that is not Running is answered in new memory too; so is all with an error left as it was.
func TestMachinesThatStayAreNew(t *testing.T) {
	f := roomy(sample())
	before := shown(f)
	for _, pick := range []int{1, 2} {
		a, err := flat.Step(f, pick)
		if err != api.OK || shown(f) != before {
			t.Fatalf("Step of %d: %d, or it changed what was handed in", pick, err)
		}
		apart(t, "Step", append(roomsOf("what came in:", f), roomsOf("the answer:", a)...))
	}
	flat.Check(f)
	flat.Peek(f, 0, 3)
	flat.Peek(f, 0, 4)
	flat.Step(f, 4)
	flat.Run(f, make([]int, api.MaxPicks+1))
	if shown(f) != before {
		t.Error("what was handed in is another")
	}
}

// P2: picks are only read.
func TestPicksAreOnlyRead(t *testing.T) {
	picks := spare([]int{0, 1, -1, 9}, -7)
	before := fmt.Sprint(picks[:cap(picks)])
	if _, err := flat.Run(pair(t, call(api.CallFork), nil), picks); err != api.OK {
		t.Fatal(err)
	}
	if fmt.Sprint(picks[:cap(picks)]) != before {
		t.Error("the picks are others")
	}
}

// P2, P3: New too.
func TestWhatIsLinkedIsOnlyRead(t *testing.T) {
	l := program(set(1, 5))
	l.Areas = spare(l.Areas, api.Area{Page: -7})
	l.Sheets = spare(l.Sheets, api.Sheet{Page: -7})
	for n := range l.Sheets {
		l.Sheets[n].Fixes = spare(l.Sheets[n].Fixes, api.Fix{Off: -7})
	}
	all := func() string {
		s := fmt.Sprint(l.Areas[:cap(l.Areas)], l.Sheets[:cap(l.Sheets)], l.Entry)
		for _, x := range l.Sheets {
			s += fmt.Sprint(x.Fixes[:cap(x.Fixes)])
		}
		return s
	}
	before := all()
	f, err := flat.New(l, 20)
	if err != api.OK || all() != before {
		t.Fatalf("New: %d, or it changed what was handed in", err)
	}
	apart(t, "New", append(roomsOf("the machine:", f), roomOf("linked Areas", l.Areas), roomOf("linked Sheets", l.Sheets)))
	clear(l.Sheets)
	clear(l.Areas)
	is(t, "New", f, start(t, 20, nil, set(1, 5)))
}

// P2: lists without elements may be nil or not.
func TestEmptyListsAreNilOrNot(t *testing.T) {
	full := turned(sample(), func(f *api.Flat) {
		for n := range f.Spaces {
			f.Spaces[n].Areas = append([]api.Area{}, f.Spaces[n].Areas...)
			f.Spaces[n].Pages = append([]api.FlatPage{}, f.Spaces[n].Pages...)
		}
		f.Spaces[0] = api.FlatSpace{Live: true, Areas: []api.Area{}, Pages: []api.FlatPage{}}
		f.Out = []api.Word{}
	})
	none := turned(full, func(f *api.Flat) {
		for n, s := range f.Spaces {
			if len(s.Areas) == 0 {
				f.Spaces[n].Areas, f.Spaces[n].Pages = nil, nil
			}
		}
		f.Out = nil
	})
	if a, b := flat.Check(full), flat.Check(none); a != api.OK || b != api.OK {
		t.Fatalf("Check: %d, %d", a, b)
	}
	for pick := range 4 {
		is(t, "Step", steps(t, full, pick), steps(t, none, pick))
	}
	is(t, "Run", run(t, full), run(t, none, []int{}...))
}
