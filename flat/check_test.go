package flat_test

import (
	"slices"
	"testing"

	"foliant/api"
	"foliant/flat"
)

// sample: a machine that no call has answered: of its four processes one has exited, one is killed; two are running, and one of these has all kinds of areas.
func sample() api.Flat {
	areas := []api.Area{{Page: 1, Pages: 2, Prot: 2}, {Page: 3, Pages: 1, Prot: 2, Zero: true}, {Page: 255, Pages: 1}}
	var l []api.FlatPage
	for _, n := range []int{1, 2, 3, 255} {
		l = append(l, api.FlatPage{Page: n, Data: "sixteen letters."})
	}
	return api.Flat{
		Slots:  5,
		Spaces: []api.FlatSpace{{Live: true, Areas: areas, Pages: l}, {}, {}, {Live: true, Areas: []api.Area{{Page: 7, Pages: 1, Prot: 3, Zero: true}}, Pages: []api.FlatPage{{Page: 7, Data: zeros}}}},
		Procs:  []api.Proc{{State: api.Running, Pc: -3, Regs: [api.Regs]int{least, greatest}}, {State: api.Exited, Code: -5}, {State: api.Killed, Fault: api.Fault{Kind: 2, Addr: -9}}, {State: api.Running, Pc: 112}},
		Out:    []api.Word{{Proc: 3, Value: least}, {Proc: 0}, {Proc: 1}, {Proc: 2}},
	}
}

// checks: the sample, one thing of it another, and what Check says of that.
var checks = []struct {
	name string
	turn func(f *api.Flat)
	want api.Errno
}{
	{"as it is", func(f *api.Flat) {}, api.OK},
	{"one space", func(f *api.Flat) { f.Spaces, f.Procs, f.Out = f.Spaces[:1], f.Procs[:1], f.Out[1:2] }, api.OK},
	{"a Live space without areas", func(f *api.Flat) { f.Spaces[0].Areas, f.Spaces[0].Pages = nil, nil }, api.OK},
	{"none Live, no slots", func(f *api.Flat) {
		f.Slots, f.Spaces, f.Procs, f.Out = 0, f.Spaces[1:2], f.Procs[1:2], nil
	}, api.OK},
	{"as many slots as may be", func(f *api.Flat) { f.Slots = api.MaxSlots }, api.OK},
	{"as many words as may be", func(f *api.Flat) { f.Out = make([]api.Word, api.MaxPicks) }, api.OK},
	{"Exited with 0", func(f *api.Flat) { f.Procs[1].Code = 0 }, api.OK},
	{"killed: FaultMap", func(f *api.Flat) { f.Procs[2].Fault = api.Fault{Kind: api.FaultMap} }, api.OK},
	{"killed: FaultAlign", func(f *api.Flat) { f.Procs[2].Fault = api.Fault{Kind: api.FaultAlign, Addr: greatest} }, api.OK},
	{"killed: FaultCode", func(f *api.Flat) { f.Procs[2].Fault = api.Fault{Kind: api.FaultCode, Addr: least} }, api.OK},
	{"registers and Pc of one that is not Running", func(f *api.Flat) { f.Procs[1].Pc, f.Procs[1].Regs[7] = greatest, least }, api.OK},

	{"no spaces", func(f *api.Flat) { f.Spaces = nil }, api.ErrMany},
	{"no spaces, no processes", func(f *api.Flat) { f.Spaces, f.Procs, f.Out = nil, nil, nil }, api.ErrMany},
	{"nothing at all", func(f *api.Flat) { *f = api.Flat{} }, api.ErrMany},
	{"one space more than may be", func(f *api.Flat) {
		f.Spaces, f.Procs = append(f.Spaces, api.FlatSpace{}), append(f.Procs, api.Proc{State: api.Exited})
	}, api.ErrMany},
	{"one process less", func(f *api.Flat) { f.Procs, f.Out = f.Procs[:3], f.Out[1:] }, api.ErrMany},
	{"one process more", func(f *api.Flat) { f.Procs = append(f.Procs, api.Proc{State: api.Exited}) }, api.ErrMany},
	{"no process", func(f *api.Flat) { f.Procs, f.Out = nil, nil }, api.ErrMany},
	{"one space less", func(f *api.Flat) { f.Spaces = f.Spaces[:3] }, api.ErrMany},
	{"slots below 0", func(f *api.Flat) { f.Slots = -1 }, api.ErrMany},
	{"the least slots", func(f *api.Flat) { f.Slots = least }, api.ErrMany},
	{"one slot more than may be", func(f *api.Flat) { f.Slots = api.MaxSlots + 1 }, api.ErrMany},
	{"the greatest slots", func(f *api.Flat) { f.Slots = greatest }, api.ErrMany},
	{"one word more than may be", func(f *api.Flat) { f.Out = make([]api.Word, api.MaxPicks+1) }, api.ErrMany},
	{"very many words", func(f *api.Flat) { f.Out = make([]api.Word, 100000) }, api.ErrMany},
	{"too many words, of no process", func(f *api.Flat) {
		f.Out = slices.Repeat([]api.Word{{Proc: 4}}, api.MaxPicks+1)
	}, api.ErrMany},
	{"too many words, and no such State", func(f *api.Flat) {
		f.Out, f.Procs[0].State = make([]api.Word, api.MaxPicks+1), 0
	}, api.ErrMany},
	{"no such slots, and no such State", func(f *api.Flat) { f.Slots, f.Procs[0].State = -1, 0 }, api.ErrMany},
	{"one process less, and areas that are not right", func(f *api.Flat) {
		f.Procs, f.Spaces[0].Areas = f.Procs[:3], []api.Area{{}}
	}, api.ErrMany},

	{"State 0", func(f *api.Flat) { f.Procs[0].State = 0 }, api.ErrForm},
	{"State 0, not Live", func(f *api.Flat) { f.Procs[1] = api.Proc{} }, api.ErrForm},
	{"State 4", func(f *api.Flat) { f.Procs[0].State = 4 }, api.ErrForm},
	{"State 4, not Live", func(f *api.Flat) { f.Procs[2].State = 4 }, api.ErrForm},
	{"State -1", func(f *api.Flat) { f.Procs[3].State = -1 }, api.ErrForm},
	{"the greatest State", func(f *api.Flat) { f.Procs[3].State = greatest }, api.ErrForm},
	{"the least State", func(f *api.Flat) { f.Procs[1].State = least }, api.ErrForm},
	{"Code of a Running one", func(f *api.Flat) { f.Procs[3].Code = 1 }, api.ErrForm},
	{"Code of a Killed one", func(f *api.Flat) { f.Procs[2].Code = -1 }, api.ErrForm},
	{"Fault of a Running one", func(f *api.Flat) { f.Procs[0].Fault.Kind = 1 }, api.ErrForm},
	{"the place of a fault of a Running one", func(f *api.Flat) { f.Procs[0].Fault.Addr = 1 }, api.ErrForm},
	{"Fault of an Exited one", func(f *api.Flat) { f.Procs[1].Fault.Kind = 4 }, api.ErrForm},
	{"the place of a fault of an Exited one", func(f *api.Flat) { f.Procs[1].Fault.Addr = -1 }, api.ErrForm},
	{"no fault of a Killed one", func(f *api.Flat) { f.Procs[2].Fault.Kind = api.NoFault }, api.ErrForm},
	{"zero fault of a Killed one", func(f *api.Flat) { f.Procs[2].Fault = api.Fault{} }, api.ErrForm},
	{"a fault of no kind", func(f *api.Flat) { f.Procs[2].Fault.Kind = 5 }, api.ErrForm},
	{"a fault of a kind below 0", func(f *api.Flat) { f.Procs[2].Fault.Kind = -1 }, api.ErrForm},
	{"a fault of the greatest kind", func(f *api.Flat) { f.Procs[2].Fault.Kind = greatest }, api.ErrForm},
	{"a fault of the least kind", func(f *api.Flat) { f.Procs[2].Fault.Kind = least }, api.ErrForm},

	{"a Running one's space is not Live", func(f *api.Flat) { f.Spaces[3] = api.FlatSpace{} }, api.ErrForm},
	{"an Exited one's space is Live", func(f *api.Flat) { f.Spaces[1].Live = true }, api.ErrForm},
	{"a Killed one's space is Live", func(f *api.Flat) { f.Spaces[2].Live = true }, api.ErrForm},
	{"one that was Running is Exited", func(f *api.Flat) { f.Procs[3].State = api.Exited }, api.ErrForm},
	{"not Live, with areas and pages", func(f *api.Flat) {
		f.Procs[3].State, f.Spaces[3].Live = api.Exited, false
	}, api.ErrForm},
	{"not Live, with areas", func(f *api.Flat) { f.Spaces[1].Areas = []api.Area{{Page: 9, Pages: 1}} }, api.ErrForm},
	{"not Live, with areas that are not right", func(f *api.Flat) { f.Spaces[1].Areas = []api.Area{{}} }, api.ErrForm},
	{"not Live, with a page", func(f *api.Flat) { f.Spaces[2].Pages = []api.FlatPage{{Page: 9, Data: zeros}} }, api.ErrForm},

	{"page 0", func(f *api.Flat) { f.Spaces[3].Areas[0].Page, f.Spaces[3].Pages[0].Page = 0, 0 }, api.ErrForm},
	{"page 256", func(f *api.Flat) { f.Spaces[3].Areas[0].Page, f.Spaces[3].Pages[0].Page = 256, 256 }, api.ErrForm},
	{"the greatest page", func(f *api.Flat) { f.Spaces[3].Areas[0].Page, f.Spaces[3].Pages[0].Page = greatest, greatest }, api.ErrForm},
	{"an area of no pages", func(f *api.Flat) { f.Spaces[3].Areas[0].Pages, f.Spaces[3].Pages = 0, nil }, api.ErrForm},
	{"an area of the greatest number of pages", func(f *api.Flat) { f.Spaces[3].Areas[0].Pages = greatest }, api.ErrForm},
	{"Prot 4", func(f *api.Flat) { f.Spaces[3].Areas[0].Prot = 4 }, api.ErrForm},
	{"Prot -1", func(f *api.Flat) { f.Spaces[0].Areas[2].Prot = -1 }, api.ErrForm},
	{"right behind, alike", func(f *api.Flat) { f.Spaces[0].Areas[1].Zero = false }, api.ErrForm},
	{"areas that do not rise", func(f *api.Flat) {
		a := f.Spaces[0].Areas
		a[0], a[2] = a[2], a[0]
	}, api.ErrForm},
	{"more areas than may be", func(f *api.Flat) { f.Spaces[0].Areas = make([]api.Area, 256) }, api.ErrForm},

	{"the first page is missing", func(f *api.Flat) { f.Spaces[0].Pages = f.Spaces[0].Pages[1:] }, api.ErrForm},
	{"the last page is missing", func(f *api.Flat) { f.Spaces[0].Pages = f.Spaces[0].Pages[:3] }, api.ErrForm},
	{"a page between is missing", func(f *api.Flat) { f.Spaces[0].Pages = slices.Delete(f.Spaces[0].Pages, 1, 2) }, api.ErrForm},
	{"no pages", func(f *api.Flat) { f.Spaces[3].Pages = nil }, api.ErrForm},
	{"pages without areas", func(f *api.Flat) { f.Spaces[3].Areas = nil }, api.ErrForm},
	{"a page that is not mapped, behind", func(f *api.Flat) {
		f.Spaces[3].Pages = append(f.Spaces[3].Pages, api.FlatPage{Page: 8, Data: zeros})
	}, api.ErrForm},
	{"a page that is not mapped, ahead", func(f *api.Flat) {
		f.Spaces[3].Pages = slices.Insert(f.Spaces[3].Pages, 0, api.FlatPage{Page: 6, Data: zeros})
	}, api.ErrForm},
	{"a page that is not mapped, between", func(f *api.Flat) {
		f.Spaces[0].Pages = slices.Insert(f.Spaces[0].Pages, 3, api.FlatPage{Page: 4, Data: zeros})
	}, api.ErrForm},
	{"a page that is not mapped, in place of one", func(f *api.Flat) { f.Spaces[3].Pages[0].Page = 8 }, api.ErrForm},
	{"a page twice", func(f *api.Flat) {
		f.Spaces[3].Pages = append(f.Spaces[3].Pages, f.Spaces[3].Pages[0])
	}, api.ErrForm},
	{"a page twice, in place of the next one", func(f *api.Flat) { f.Spaces[0].Pages[1] = f.Spaces[0].Pages[0] }, api.ErrForm},
	{"pages that do not rise", func(f *api.Flat) {
		l := f.Spaces[0].Pages
		l[1], l[2] = l[2], l[1]
	}, api.ErrForm},
	{"a page of 15 bytes", func(f *api.Flat) { f.Spaces[0].Pages[1].Data = zeros[:15] }, api.ErrForm},
	{"a page of 17 bytes", func(f *api.Flat) { f.Spaces[0].Pages[3].Data = zeros + "x" }, api.ErrForm},
	{"a page of no bytes", func(f *api.Flat) { f.Spaces[3].Pages[0].Data = "" }, api.ErrForm},

	{"one slot too few", func(f *api.Flat) { f.Slots = 4 }, api.ErrForm},
	{"no slots", func(f *api.Flat) { f.Slots = 0 }, api.ErrForm},

	{"a word of process 4", func(f *api.Flat) { f.Out[3].Proc = 4 }, api.ErrForm},
	{"a word of process -1", func(f *api.Flat) { f.Out[0].Proc = -1 }, api.ErrForm},
	{"a word of the greatest process", func(f *api.Flat) { f.Out[2].Proc = greatest }, api.ErrForm},
	{"a word of the least process", func(f *api.Flat) { f.Out[2].Proc = least }, api.ErrForm},
	{"as many words as may be, the last one of no process", func(f *api.Flat) {
		f.Out = append(make([]api.Word, api.MaxPicks-1), api.Word{Proc: 4})
	}, api.ErrForm},
}

// G1: each of its points by itself.
func TestCheck(t *testing.T) {
	for _, c := range checks {
		if err := flat.Check(turned(sample(), c.turn)); err != c.want {
			t.Errorf("%s: %d, must be %d", c.name, err, c.want)
		}
	}
}

// G1: how many pages all spaces may have together.
func TestCheckAllPages(t *testing.T) {
	whole := func(n int) api.FlatSpace {
		s := api.FlatSpace{Live: true, Areas: []api.Area{{Page: 1, Pages: n, Prot: 1}}}
		for k := range n {
			s.Pages = append(s.Pages, api.FlatPage{Page: 1 + k, Data: zeros})
		}
		return s
	}
	p := api.Proc{State: api.Running}
	f := api.Flat{Slots: 512, Spaces: []api.FlatSpace{whole(255), whole(255), whole(2)}, Procs: []api.Proc{p, p, p}}
	if err := flat.Check(f); err != api.OK {
		t.Errorf("just as many as there are slots: %d", err)
	}
	f.Spaces[2] = whole(3)
	if err := flat.Check(f); err != api.ErrForm {
		t.Errorf("one more than there are slots: %d", err)
	}
}

// G1, P1: the other calls tell it first, whatever else they are handed.
func TestCheckIsToldFirst(t *testing.T) {
	many := make([]int, api.MaxPicks+1)
	for _, c := range checks {
		if c.want == api.OK {
			continue
		}
		f := turned(sample(), c.turn)
		for _, pick := range []int{0, 1, 3, 4, -1, least, greatest} {
			if n, err := flat.Step(f, pick); !isNone(n) || err != c.want {
				t.Errorf("%s: Step of %d: %v %d, must be %d", c.name, pick, n, err, c.want)
			}
			if s, err := flat.Peek(f, pick, 3); s != "" || err != c.want {
				t.Errorf("%s: Peek of %d: %q %d, must be %d", c.name, pick, s, err, c.want)
			}
		}
		for _, picks := range [][]int{nil, {0}, {-1}, many} {
			if n, err := flat.Run(f, picks); !isNone(n) || err != c.want {
				t.Errorf("%s: Run of %d picks: %v %d, must be %d", c.name, len(picks), n, err, c.want)
			}
		}
	}
}
