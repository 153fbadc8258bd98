package flat_test

import (
	"slices"
	"testing"

	"foliant/api"
	"foliant/flat"
	"foliant/link"
)

// G2
func TestNew(t *testing.T) {
	l := program(set(1, 5), call(api.CallExit))
	f, err := flat.New(l, pages)
	if err != api.OK {
		t.Fatal(err)
	}
	want := api.Flat{Slots: pages, Spaces: []api.FlatSpace{{Live: true, Areas: l.Areas, Pages: []api.FlatPage{
		{Page: 1, Data: code(set(1, 5), call(api.CallExit))}, {Page: 2, Data: zeros}, {Page: 3, Data: zeros}, {Page: 4, Data: zeros},
		{Page: 5, Data: "0X23456789abcde\xff"}, {Page: 6, Data: l.Sheets[5].Data}, {Page: 7, Data: "seven, seven, se"}, {Page: 9, Data: "nine, nine, nine"},
	}}}, Procs: []api.Proc{{Pc: 16, State: api.Running}}}
	is(t, "New", f, want)
}

// G2, P1: link.Check's error first, then ErrRange, then ErrRoom.
func TestNewErrors(t *testing.T) {
	good, notRight := program(), program()
	notRight.Entry = 17
	tooMany := api.Linked{Areas: make([]api.Area, 256)}
	for _, c := range []struct {
		name  string
		l     api.Linked
		slots int
		want  api.Errno
	}{
		{"nothing linked", api.Linked{}, 9, api.ErrForm},
		{"nothing linked, no such slots", api.Linked{}, -1, api.ErrForm},
		{"not right", notRight, 0, api.ErrForm},
		{"too many areas", tooMany, 9, api.ErrMany},
		{"too many areas, no such slots", tooMany, 513, api.ErrMany},
		{"slots below 0", good, -1, api.ErrRange},
		{"the least slots", good, least, api.ErrRange},
		{"too many slots", good, 513, api.ErrRange},
		{"the greatest slots", good, greatest, api.ErrRange},
		{"no slots", good, 0, api.ErrRoom},
		{"one slot too few", good, pages - 1, api.ErrRoom},
		{"just enough", good, pages, api.OK},
		{"as many as may be", good, 512, api.OK},
	} {
		f, err := flat.New(c.l, c.slots)
		if err != c.want || err != api.OK && !isNone(f) {
			t.Errorf("%s: %v %d, must be %d", c.name, f, err, c.want)
		}
		if err == api.OK && (flat.Check(f) != api.OK || f.Slots != c.slots) {
			t.Errorf("%s: what comes is not right", c.name)
		}
	}
}

// G2: a program and its library, linked.
func TestNewOfWhatIsLinked(t *testing.T) {
	main := api.Image{Name: "main", Needs: []string{"lib"}, Segs: []api.Seg{{Pages: 2, Data: "main", Exec: true}}, Rels: []api.Rel{{At: 12, Name: "sym", Add: 1}}, Entry: 24}
	lib := api.Image{Name: "lib", Segs: []api.Seg{{Page: 1, Pages: 1, Data: "lib", Write: true, Exec: true}}, Syms: []api.Sym{{Name: "sym", At: 19}}, Entry: 16}
	l, err := link.Link(main, []api.Image{lib})
	if err != api.OK {
		t.Fatal(err)
	}
	f, err := flat.New(l, 3)
	if err != api.OK || f.Procs[0] != (api.Proc{Pc: 40, State: api.Running}) {
		t.Fatalf("New: %v %d", f, err)
	}
	peek(t, f, 0, 1, "main\x00\x00\x00\x00\x00\x00\x00\x00\x44\x00\x00\x00")
	peek(t, f, 0, 2, zeros)
	peek(t, f, 0, 4, "lib"+zeros[3:])
}

// G3: an instruction that asks for nothing: only its process is another.
func TestStep(t *testing.T) {
	f := start(t, 20, []int{7, 8}, set(2, -5), api.Instr{Op: api.OpMul, A: 0, B: 1, C: 2}, api.Instr{Op: api.OpJump, Imm: -16})
	f.Out = []api.Word{{Proc: 0, Value: 9}}
	one := steps(t, f, 0)
	is(t, "set", one, turned(f, func(f *api.Flat) { f.Procs[0].Pc, f.Procs[0].Regs[2] = 24, -5 }))
	two := steps(t, one, 0)
	is(t, "mul", two, turned(one, func(f *api.Flat) { f.Procs[0].Pc, f.Procs[0].Regs[0] = 32, -40 }))
	is(t, "jump", steps(t, two, 0), turned(two, func(f *api.Flat) { f.Procs[0].Pc = 16 }))
}

// G3, P1
func TestStepOfNoProcess(t *testing.T) {
	f := sample()
	for _, pick := range []int{-1, -2, 4, 5, least, greatest, least + 1} {
		if n, err := flat.Step(f, pick); !isNone(n) || err != api.ErrNone {
			t.Errorf("Step of %d: %v %d", pick, n, err)
		}
	}
	full := turned(f, func(f *api.Flat) { f.Out = make([]api.Word, api.MaxPicks) })
	if n, err := flat.Step(full, 4); !isNone(n) || err != api.ErrNone {
		t.Errorf("Step of 4, with MaxPicks words: %v %d", n, err)
	}
}

// G3: of one that is not Running nothing changes, however many words there are.
func TestStepOfOneThatIsNotRunning(t *testing.T) {
	for _, words := range []int{4, api.MaxPicks} {
		f := turned(sample(), func(f *api.Flat) { f.Out = append(f.Out, make([]api.Word, words-4)...) })
		for _, pick := range []int{1, 2} {
			n, err := flat.Step(f, pick)
			if err != api.OK {
				t.Fatalf("Step of %d: %d", pick, err)
			}
			is(t, "not Running", n, f)
		}
	}
}

// G3, P1: a Running one needs room for a word, whether it tells one or not, or would be killed.
func TestStepWithMaxPicksWords(t *testing.T) {
	for _, i := range []api.Instr{call(api.CallOut), set(1, 1), call(api.CallExit), {}} {
		f := start(t, 20, []int{3}, i)
		f.Out = make([]api.Word, api.MaxPicks)
		if n, err := flat.Step(f, 0); !isNone(n) || err != api.ErrMany {
			t.Errorf("%v: %d words %d", i, len(n.Out), err)
		}
	}
	f := start(t, 20, []int{3}, call(api.CallOut))
	f.Out = make([]api.Word, api.MaxPicks-1)
	n := steps(t, f, 0)
	if len(n.Out) != api.MaxPicks || n.Out[api.MaxPicks-1] != (api.Word{Proc: 0, Value: 3}) {
		t.Errorf("the last word that may be: %d words", len(n.Out))
	}
}

// G3: loads of each size, over the end of a page too; a number below 0 is only one of eight bytes.
func TestLoad(t *testing.T) {
	for _, c := range []struct {
		name          string
		at, imm, size int
		want          int
	}{
		{"one byte", 80, 0, 1, '0'},
		{"two bytes", 80, 0, 2, 'X'<<8 | '0'},
		{"four bytes", 84, -4, 4, '3'<<24 | '2'<<16 | 'X'<<8 | '0'},
		{"eight bytes", 0, 88, 8, -1<<56 | 'e'<<48 | 'd'<<40 | 'c'<<32 | 'b'<<24 | 'a'<<16 | '9'<<8 | '8'},
		{"one byte, no sign", 95, 0, 1, 255},
		{"two bytes over a page's end", 95, 0, 2, 0xfeff},
		{"four bytes over a page's end", 100, -7, 4, 0xfeff<<16 | 'e'<<8 | 'd'},
		{"eight bytes over a page's end, below 0", 95, 0, 8, -0x101},
		{"eight bytes, below 0", 96, 0, 8, -2},
		{"the last byte ahead of the gap", 127, 0, 1, 'e'},
		{"the first byte behind the gap", 144, 0, 1, 'n'},
		{"the last bytes of all", 152, 0, 8, 'e'<<56 | 'n'<<48 | 'i'<<40 | 'n'<<32 | ' '<<24 | ','<<16 | 'e'<<8 | 'n'},
		{"bytes to run may be read", 16, 0, 2, 3<<8 | api.OpLoad},
	} {
		f := start(t, 20, []int{0, c.at}, load(3, 1, c.imm, c.size))
		is(t, c.name, steps(t, f, 0), turned(f, func(f *api.Flat) { f.Procs[0].Pc, f.Procs[0].Regs[3] = 24, c.want }))
	}
}

// G3: stores of each size, over the end of a page too: these bytes are others, and no more.
func TestStore(t *testing.T) {
	const number = 0x0102030405060708
	for _, c := range []struct {
		name          string
		at, imm, size int
		page          int
		want          []string // the pages from that one on
	}{
		{"one byte", 80, 1, 1, 5, []string{"0\x0823456789abcde\xff"}},
		{"two bytes", 80, 0, 2, 5, []string{"\x08\x0723456789abcde\xff"}},
		{"four bytes", 90, -4, 4, 5, []string{"0X2345\x08\x07\x06\x05abcde\xff"}},
		{"eight bytes", 88, 0, 8, 5, []string{"0X234567\x08\x07\x06\x05\x04\x03\x02\x01"}},
		{"two bytes over a page's end", 95, 0, 2, 5, []string{"0X23456789abcde\x08", "\x07\xff\xff\xff\xff\xff\xff\xffmnopqrst"}},
		{"eight bytes over a page's end", 91, 0, 8, 5, []string{"0X23456789a\x08\x07\x06\x05\x04", "\x03\x02\x01\xff\xff\xff\xff\xffmnopqrst"}},
		{"up to the last byte with the right", 104, 0, 8, 6, []string{"\xfe\xff\xff\xff\xff\xff\xff\xff\x08\x07\x06\x05\x04\x03\x02\x01"}},
		{"the last byte of all", 159, 0, 1, 9, []string{"nine, nine, nin\x08"}},
	} {
		f := start(t, 20, []int{0, c.at, 0, number}, store(3, 1, c.imm, c.size))
		is(t, c.name, steps(t, f, 0), turned(f, func(f *api.Flat) {
			f.Procs[0].Pc = 24
			for n, s := range c.want {
				k := slices.IndexFunc(f.Spaces[0].Pages, func(p api.FlatPage) bool { return p.Page == c.page+n })
				f.Spaces[0].Pages[k].Data = s
			}
		}))
	}
}

// G3: bytes that were stored are run, and nothing is behind the last page.
func TestStoredBytesAreRun(t *testing.T) {
	f := start(t, 20, []int{152}, load(1, 0, -112, 8), store(1, 0, 0, 8), api.Instr{Op: api.OpGo}, set(5, 55))
	f = steps(t, f, 0, 0, 0)
	is(t, "the last instruction, stored in page 9", steps(t, f, 0), turned(f, func(f *api.Flat) { f.Procs[0].Pc, f.Procs[0].Regs[5] = 160, 55 }))
	peek(t, f, 0, 9, "nine, ni"+code(set(5, 55)))
	f = steps(t, f, 0, 0)
	if p := f.Procs[0]; p.State != api.Killed || p.Fault != (api.Fault{Kind: api.FaultMap, Addr: 160}) {
		t.Errorf("behind the last page: %v", p)
	}
}

// G3: the process is killed: registers and Pc stay, its space is not Live any more; nothing else is another.
func TestFaults(t *testing.T) {
	for _, c := range []struct {
		name       string
		pc, r1     int
		i          api.Instr // at 16
		kind, addr int
	}{
		{"no place to run, though it is mapped", 17, 0, set(1, 1), api.FaultAlign, 17},
		{"no place to run, not mapped", 4097, 0, set(1, 1), api.FaultAlign, 4097},
		{"no place to run, no right", 84, 0, set(1, 1), api.FaultAlign, 84},
		{"no place to run, below 0", -4, 0, set(1, 1), api.FaultAlign, -4},
		{"no place to run, the greatest", greatest, 0, set(1, 1), api.FaultAlign, greatest},
		{"to run, page 0", 0, 0, set(1, 1), api.FaultMap, 0},
		{"to run, page 0, its end", 8, 0, set(1, 1), api.FaultMap, 8},
		{"to run, below 0", -8, 0, set(1, 1), api.FaultMap, -8},
		{"to run, the least", least, 0, set(1, 1), api.FaultMap, least},
		{"to run, the greatest place", greatest - 7, 0, set(1, 1), api.FaultMap, greatest - 7},
		{"to run, behind all pages", 4096, 0, set(1, 1), api.FaultMap, 4096},
		{"to run, a gap", 128, 0, set(1, 1), api.FaultMap, 128},
		{"to run, right to write", 80, 0, set(1, 1), api.FaultRight, 80},
		{"to run, right to read", 120, 0, set(1, 1), api.FaultRight, 120},
		{"Op 0", 16, 0, api.Instr{}, api.FaultCode, 16},
		{"Op 17", 16, 0, api.Instr{Op: 17}, api.FaultCode, 16},
		{"Op 0, at a page's end", 24, 0, set(1, 1), api.FaultCode, 24},
		{"no register A", 16, 0, set(8, 1), api.FaultCode, 16},
		{"a bad load that would fault", 16, 0, load(1, 8, 0, 8), api.FaultCode, 16},
		{"a load of three bytes", 16, 80, load(1, 1, 0, 3), api.FaultCode, 16},
		{"a store of no bytes", 16, 80, store(1, 1, 0, 0), api.FaultCode, 16},
		{"call 0", 16, 0, call(0), api.FaultCode, 16},
		{"call 7", 16, 0, call(7), api.FaultCode, 16},
		{"to read, page 0", 16, 0, load(1, 1, 0, 8), api.FaultMap, 0},
		{"to read, from page 0 into page 1", 16, 15, load(1, 1, 0, 8), api.FaultMap, 15},
		{"to read, below 0", 16, 0, load(1, 1, -1, 8), api.FaultMap, -1},
		{"to read, the least", 16, least, load(1, 1, 0, 1), api.FaultMap, least},
		{"to read, the greatest", 16, greatest, load(1, 1, 0, 8), api.FaultMap, greatest},
		{"to read, behind the greatest: round to the least", 16, greatest, load(1, 1, 1, 8), api.FaultMap, least},
		{"to read, below the least: round to the greatest", 16, least, load(1, 1, -1, 8), api.FaultMap, greatest},
		{"to read, up to the greatest", 16, greatest - 7, load(1, 1, 0, 8), api.FaultMap, greatest - 7},
		{"to read, over the end ahead of the gap", 16, 127, load(1, 1, 0, 2), api.FaultMap, 128},
		{"to read, over the end, the last of eight", 16, 121, load(1, 1, 0, 8), api.FaultMap, 128},
		{"to read, in the gap", 16, 140, load(1, 1, 0, 8), api.FaultMap, 140},
		{"to read, over the end of all", 16, 156, load(1, 1, 0, 8), api.FaultMap, 160},
		{"to write, no right to", 16, 112, store(1, 1, 0, 8), api.FaultRight, 112},
		{"to write, no right to, but to run", 16, 24, store(1, 1, 0, 8), api.FaultRight, 24},
		{"to write, no right from the second page on", 16, 108, store(1, 1, 0, 8), api.FaultRight, 112},
		{"to write, no right on the first page", 16, 78, store(1, 1, 0, 4), api.FaultRight, 78},
		{"to write, no right, and then a gap", 16, 124, store(1, 1, 0, 8), api.FaultRight, 124},
		{"to write, a gap, and then the right", 16, 140, store(1, 1, 0, 8), api.FaultMap, 140},
		{"to write, over the end of all", 16, 159, store(1, 1, 0, 2), api.FaultMap, 160},
		{"to write, page 0", 16, 0, store(1, 1, 0, 1), api.FaultMap, 0},
		{"to write, below 0", 16, -4, store(1, 1, 0, 8), api.FaultMap, -4},
		{"to write, the greatest", 16, greatest, store(1, 1, 0, 8), api.FaultMap, greatest},
	} {
		f := start(t, 20, []int{5, c.r1, 7}, c.i)
		f.Procs[0].Pc = c.pc
		f = turned(f, func(f *api.Flat) { // one more, to see that it stays
			f.Spaces = append(f.Spaces, copyOf(*f).Spaces[0])
			f.Procs = append(f.Procs, f.Procs[0])
			f.Out = []api.Word{{Proc: 1, Value: 3}}
		})
		for pick := range 2 {
			is(t, c.name, steps(t, f, pick), turned(f, func(f *api.Flat) { dead(f, pick, c.kind, c.addr) }))
		}
	}
}

// G3: a store that faults on its second page has stored nothing on its first one, whoever looks.
func TestAFaultStoresNothing(t *testing.T) {
	f := start(t, 20, []int{9, 108}, call(api.CallFork), store(1, 1, 0, 8))
	f = steps(t, f, 0, 1)
	if f.Procs[1].Fault != (api.Fault{Kind: api.FaultRight, Addr: 112}) {
		t.Fatalf("no fault: %v", f.Procs[1])
	}
	peek(t, f, 0, 6, "\xfe\xff\xff\xff\xff\xff\xff\xffmnopqrst")
}
