package flat_test

import (
	"slices"
	"testing"

	"foliant/api"
	"foliant/area"
	"foliant/flat"
)

// G4: the word is R[0], of that process; R[0] stays.
func TestCallOut(t *testing.T) {
	for _, n := range []int{0, 5, -1, least, greatest} {
		f := start(t, 20, []int{n, 1, 2}, call(api.CallOut), call(api.CallOut))
		one := steps(t, f, 0)
		is(t, "out", one, turned(f, func(f *api.Flat) { f.Procs[0].Pc, f.Out = 24, []api.Word{{Proc: 0, Value: n}} }))
		two := steps(t, one, 0)
		is(t, "out again", two, turned(one, func(f *api.Flat) { f.Procs[0].Pc, f.Out = 32, append(f.Out, api.Word{Proc: 0, Value: n}) }))
	}
}

// calls: of pages from R[0] on, R[1] many, Prot R[2], of the program with 20 slots.
var calls = []struct {
	name  string
	call  int
	regs  [3]int
	want  api.Errno
	pages []api.FlatPage // that are new
	gone  []int
}{
	{"map in the gap", api.CallMap, [3]int{8, 1, 1}, api.OK, []api.FlatPage{{Page: 8, Data: zeros}}, nil},
	{"map behind all", api.CallMap, [3]int{254, 2, 3}, api.OK, []api.FlatPage{{Page: 254, Data: zeros}, {Page: 255, Data: zeros}}, nil},
	{"map with no rights", api.CallMap, [3]int{10, 1, 0}, api.OK, []api.FlatPage{{Page: 10, Data: zeros}}, nil},
	{"map of what is mapped", api.CallMap, [3]int{5, 1, 1}, api.ErrThere, nil, nil},
	{"map of more than there is of the gap", api.CallMap, [3]int{8, 2, 1}, api.ErrThere, nil, nil},
	{"map of page 0", api.CallMap, [3]int{0, 1, 1}, api.ErrRange, nil, nil},
	{"map of a page below 0", api.CallMap, [3]int{-1, 1, 1}, api.ErrRange, nil, nil},
	{"map of the least page", api.CallMap, [3]int{least, 1, 1}, api.ErrRange, nil, nil},
	{"map of page 256", api.CallMap, [3]int{256, 1, 1}, api.ErrRange, nil, nil},
	{"map of the greatest page", api.CallMap, [3]int{greatest, greatest, 1}, api.ErrRange, nil, nil},
	{"map of no pages", api.CallMap, [3]int{8, 0, 1}, api.ErrRange, nil, nil},
	{"map of fewer than no pages", api.CallMap, [3]int{8, -1, 1}, api.ErrRange, nil, nil},
	{"map of one page too many", api.CallMap, [3]int{254, 3, 1}, api.ErrRange, nil, nil},
	{"map of the greatest number of pages", api.CallMap, [3]int{10, greatest, 1}, api.ErrRange, nil, nil},
	{"map with Prot 4", api.CallMap, [3]int{8, 1, 4}, api.ErrRange, nil, nil},
	{"map with Prot -1", api.CallMap, [3]int{8, 1, -1}, api.ErrRange, nil, nil},
	{"map with the least Prot", api.CallMap, [3]int{8, 1, least}, api.ErrRange, nil, nil},
	{"map of as many as there is room for", api.CallMap, [3]int{100, 12, 1}, api.OK, blank(100, 12), nil},
	{"map of one more than there is room for", api.CallMap, [3]int{100, 13, 1}, api.ErrRoom, nil, nil},
	{"map without room, of what is mapped: ErrThere is first", api.CallMap, [3]int{9, 50, 1}, api.ErrThere, nil, nil},
	{"map without room, with no Prot: ErrRange is first", api.CallMap, [3]int{100, 50, 4}, api.ErrRange, nil, nil},

	{"unmap of one page between", api.CallUnmap, [3]int{6, 1, 0}, api.OK, nil, []int{6}},
	{"unmap of the first of two", api.CallUnmap, [3]int{5, 1, 0}, api.OK, nil, []int{5}},
	{"unmap over several, and a gap", api.CallUnmap, [3]int{6, 4, 0}, api.OK, nil, []int{6, 7, 9}},
	{"unmap of all", api.CallUnmap, [3]int{1, 255, 0}, api.OK, nil, []int{1, 2, 3, 4, 5, 6, 7, 9}},
	{"unmap of the page that it runs on", api.CallUnmap, [3]int{1, 1, 0}, api.OK, nil, []int{1}},
	{"unmap of nothing", api.CallUnmap, [3]int{10, 9, 0}, api.OK, nil, nil},
	{"unmap does not ask for a Prot", api.CallUnmap, [3]int{7, 1, least}, api.OK, nil, []int{7}},
	{"unmap of page 0", api.CallUnmap, [3]int{0, 9, 0}, api.ErrRange, nil, nil},
	{"unmap of no pages", api.CallUnmap, [3]int{5, 0, 0}, api.ErrRange, nil, nil},
	{"unmap of one page too many", api.CallUnmap, [3]int{1, 256, 0}, api.ErrRange, nil, nil},
	{"unmap of the greatest number of pages", api.CallUnmap, [3]int{5, greatest, 0}, api.ErrRange, nil, nil},
	{"unmap of the least page, and the greatest number", api.CallUnmap, [3]int{least, greatest, 0}, api.ErrRange, nil, nil},

	{"protect of one page between", api.CallProtect, [3]int{2, 1, 3}, api.OK, nil, nil},
	{"protect over several", api.CallProtect, [3]int{4, 4, 0}, api.OK, nil, nil},
	{"protect as it was", api.CallProtect, [3]int{5, 2, 1}, api.OK, nil, nil},
	{"protect of the gap", api.CallProtect, [3]int{7, 2, 1}, api.ErrNone, nil, nil},
	{"protect of what is not mapped", api.CallProtect, [3]int{100, 1, 1}, api.ErrNone, nil, nil},
	{"protect with Prot 4", api.CallProtect, [3]int{5, 1, 4}, api.ErrRange, nil, nil},
	{"protect with Prot -1, of what is not mapped", api.CallProtect, [3]int{100, 1, -1}, api.ErrRange, nil, nil},
	{"protect of page 256", api.CallProtect, [3]int{256, 1, 1}, api.ErrRange, nil, nil},
	{"protect of no pages", api.CallProtect, [3]int{5, 0, 1}, api.ErrRange, nil, nil},
	{"protect of the greatest number of pages", api.CallProtect, [3]int{5, greatest, 1}, api.ErrRange, nil, nil},
}

func blank(page, n int) []api.FlatPage {
	var l []api.FlatPage
	for k := range n {
		l = append(l, api.FlatPage{Page: page + k, Data: zeros})
	}
	return l
}

// areasBehind: as chapter 3 has it.
func areasBehind(l []api.Area, call int, regs [3]int) []api.Area {
	switch call {
	case api.CallMap:
		l, _ = area.Map(l, regs[0], regs[1], regs[2])
	case api.CallUnmap:
		l, _ = area.Unmap(l, regs[0], regs[1])
	case api.CallProtect:
		l, _ = area.Protect(l, regs[0], regs[1], regs[2])
	}
	return l
}

// G4: with an error only the answer comes; else the areas are as chapter 3 tells, and all other pages stay.
func TestCallsOfPages(t *testing.T) {
	for _, c := range calls {
		f := start(t, 20, c.regs[:], call(c.call))
		is(t, c.name, steps(t, f, 0), turned(f, func(f *api.Flat) {
			s := &f.Spaces[0]
			f.Procs[0].Pc, f.Procs[0].Regs[0] = 24, int(c.want)
			if c.want != api.OK {
				return
			}
			s.Areas = areasBehind(s.Areas, c.call, c.regs)
			s.Pages = slices.DeleteFunc(append(s.Pages, c.pages...), func(p api.FlatPage) bool { return slices.Contains(c.gone, p.Page) })
			slices.SortFunc(s.Pages, func(a, b api.FlatPage) int { return a.Page - b.Page })
		}))
	}
}

// G4: the areas of the third example of the document, told by a process.
func TestAreasOfACall(t *testing.T) {
	f := start(t, 20, []int{20, 4, 1}, call(api.CallMap), set(0, 21), set(1, 1), set(2, 0), call(api.CallProtect))
	f = steps(t, f, 0, 0, 0, 0, 0)
	want := append(program().Areas, api.Area{Page: 20, Pages: 1, Prot: 1, Zero: true}, api.Area{Page: 21, Pages: 1, Zero: true}, api.Area{Page: 22, Pages: 2, Prot: 1, Zero: true})
	if !slices.Equal(f.Spaces[0].Areas, want) {
		t.Errorf("%v, must be %v", f.Spaces[0].Areas, want)
	}
}

// G4: what is mapped anew has zeros, also where a page with bytes was.
func TestMappedAnew(t *testing.T) {
	f := start(t, 20, []int{5, 2, 1}, call(api.CallUnmap), set(0, 5), call(api.CallMap))
	f = steps(t, f, 0, 0, 0)
	peek(t, f, 0, 5, zeros)
	peek(t, f, 0, 6, zeros)
	peek(t, f, 0, 7, "seven, seven, se")
	peek(t, f, 0, 4, zeros)
	if f.Procs[0].Regs[0] != 0 || !f.Spaces[0].Areas[1].Zero {
		t.Errorf("not mapped anew: %v", f)
	}
}

// G4: Protect takes rights, and gives them.
func TestRightsAreTaken(t *testing.T) {
	f := start(t, 20, []int{7, 1, 1, 112}, call(api.CallProtect), store(3, 3, 0, 8), set(0, 1), set(2, 0), call(api.CallProtect), set(0, 3))
	f = steps(t, f, 0, 0, 0, 0)
	peek(t, f, 0, 7, "p\x00\x00\x00\x00\x00\x00\x00even, se")
	f = steps(t, f, 0, 0)
	if p := f.Procs[0]; p.State != api.Running {
		t.Fatalf("page 3 may still be run: %v", p)
	}
	f = start(t, 20, []int{1, 1, 1}, call(api.CallProtect))
	f = steps(t, f, 0, 0)
	if p := f.Procs[0]; p.Fault != (api.Fault{Kind: api.FaultRight, Addr: 24}) || p.Regs[0] != 0 {
		t.Errorf("page 1 may be run no more: %v", p)
	}
}

// G4: a page that it runs on is gone.
func TestUnmapOfItsOwnPage(t *testing.T) {
	f := steps(t, start(t, 20, []int{1, 1}, call(api.CallUnmap)), 0, 0)
	is(t, "killed", f, turned(start(t, 20, []int{0, 1}, call(api.CallUnmap)), func(f *api.Flat) {
		f.Procs[0].Pc = 24
		dead(f, 0, api.FaultMap, 24)
	}))
}

// G4, P1: the new one is the same in all, but for the answer.
func TestCallFork(t *testing.T) {
	f := start(t, 4*pages, []int{11, 12, 13, 14, 15, 16, 17, 18}, call(api.CallFork), call(api.CallFork))
	f.Out = []api.Word{{Proc: 0, Value: 6}}
	one := steps(t, f, 0)
	two := turned(f, func(f *api.Flat) {
		f.Procs[0].Pc = 24
		f.Procs = append(f.Procs, f.Procs[0])
		f.Procs[0].Regs[0], f.Procs[1].Regs[0] = 1, 0
		f.Spaces = append(f.Spaces, copyOf(*f).Spaces[0])
	})
	is(t, "fork", one, two)
	is(t, "the new one forks", steps(t, one, 1), turned(two, func(f *api.Flat) {
		f.Procs[1].Pc = 32
		f.Procs = append(f.Procs, f.Procs[1])
		f.Procs[1].Regs[0], f.Procs[2].Regs[0] = 2, 0
		f.Spaces = append(f.Spaces, copyOf(*f).Spaces[1])
	}))
}

// G4: -1 with MaxSpaces spaces, Live or not; else nothing changes.
func TestForkWithTooManySpaces(t *testing.T) {
	f := start(t, api.MaxSlots, []int{9}, call(api.CallFork))
	for len(f.Spaces) < api.MaxSpaces {
		n := steps(t, f, 0)
		if n.Procs[0].Regs[0] != len(f.Procs) || len(n.Procs) != len(f.Procs)+1 {
			t.Fatalf("fork %d: %v", len(f.Procs), n.Procs)
		}
		n.Procs[0].Pc = 16
		f = n
	}
	refused := func(f *api.Flat) { f.Procs[0].Pc, f.Procs[0].Regs[0] = 24, -1 }
	is(t, "all Live", steps(t, f, 0), turned(f, refused))
	for n := 1; n < api.MaxSpaces; n++ {
		dead(&f, n, api.FaultMap, 0)
	}
	is(t, "one Live", steps(t, f, 0), turned(f, refused))
}

// G4: -1 without room, also by what other spaces have.
func TestForkWithoutRoom(t *testing.T) {
	for slots, want := range map[int]int{pages: -1, 2*pages - 1: -1, 2 * pages: 1} {
		f := steps(t, start(t, slots, nil, call(api.CallFork)), 0)
		if f.Procs[0].Regs[0] != want || len(f.Procs) != 1+max(want, 0) || len(f.Spaces) != len(f.Procs) {
			t.Errorf("%d slots: %v", slots, f.Procs)
		}
	}
	for slots, want := range map[int]int{2 * pages: -1, 3*pages - 1: -1, 3 * pages: 2} {
		f := steps(t, start(t, slots, nil, call(api.CallFork), call(api.CallFork)), 0, 0)
		if f.Procs[0].Regs[0] != want || len(f.Procs) != max(want, 1)+1 {
			t.Errorf("%d slots: %v", slots, f.Procs)
		}
	}
}

// G4: room is what all spaces have together; one that is given up makes room.
func TestRoomOfAllSpaces(t *testing.T) {
	f := start(t, 2*pages+3, nil, call(api.CallFork), set(0, 20), set(1, 4), set(2, 1), call(api.CallMap), call(api.CallOut), call(api.CallExit))
	f = steps(t, f, 0, 0, 0, 0, 0) // four pages, where there is room for three
	if f.Procs[0].Regs[0] != int(api.ErrRoom) || len(f.Spaces[0].Pages) != pages {
		t.Fatalf("there is no room: %v", f.Procs)
	}
	f.Procs[0].Pc = 24
	is(t, "the other one exits", steps(t, turned(f, func(f *api.Flat) { f.Procs[1].Pc = 64 }), 1), turned(f, func(f *api.Flat) {
		f.Procs[1].Pc, f.Procs[1].State, f.Procs[1].Code = 72, api.Exited, 0
		f.Spaces[1] = api.FlatSpace{}
	}))
	f = steps(t, turned(f, func(f *api.Flat) { f.Procs[1].Pc = 64 }), 1, 0, 0, 0, 0)
	if f.Procs[0].Regs[0] != 0 || len(f.Spaces[0].Pages) != pages+4 {
		t.Errorf("there is room: %v", f.Procs)
	}
}

// G4
func TestCallExit(t *testing.T) {
	for _, n := range []int{0, 1, -1, least, greatest} {
		f := start(t, 20, []int{n, 2}, call(api.CallExit))
		is(t, "exit", steps(t, f, 0), turned(f, func(f *api.Flat) {
			f.Procs[0].Pc, f.Procs[0].State, f.Procs[0].Code = 24, api.Exited, n
			f.Spaces[0] = api.FlatSpace{}
		}))
		is(t, "and no more", steps(t, f, 0, 0, 0), steps(t, f, 0))
	}
}

// G4, and what the whole promises: what one stores, maps or unmaps behind a fork is not seen by the other one.
func TestForkedSpacesAreApart(t *testing.T) {
	f := start(t, 40, []int{0, 80, 0, 8, 1, 1}, call(api.CallFork), store(0, 1, 0, 1), set(0, 8), set(1, 1), set(2, 1), call(api.CallMap), set(0, 9), call(api.CallUnmap))
	f = steps(t, f, 0)
	for pick := range 2 {
		n := steps(t, f, slices.Repeat([]int{pick}, 7)...)
		other := 1 - pick
		if !equal(api.Flat{Spaces: n.Spaces[other : other+1]}, api.Flat{Spaces: f.Spaces[other : other+1]}) || n.Procs[other] != f.Procs[other] {
			t.Errorf("process %d is seen by the other one", pick)
		}
		peek(t, n, pick, 5, string([]byte{byte(1 - pick)})+"X23456789abcde\xff")
		peek(t, n, pick, 8, zeros)
		if _, err := flat.Peek(n, pick, 9); err != api.ErrNone {
			t.Errorf("page 9 of %d: %d", pick, err)
		}
	}
}
