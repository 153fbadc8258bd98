package machine_test

import (
	"fmt"
	"math"
	"slices"
	"strings"
	"testing"

	"foliant/api"
	"foliant/flat"
	"foliant/kernel"
	"foliant/machine"
)

const (
	least    = math.MinInt
	greatest = math.MaxInt
	pages    = 8 // of the program
)

var zeros = strings.Repeat("\x00", api.PageSize)

// draw: numbers for scripts that are long; the same each time.
type draw uint64

func (d *draw) n(n int) int {
	*d = *d*6364136223846793005 + 1442695040888963407
	return int(uint64(*d) >> 33 % uint64(n))
}

// code: the bytes of instructions, made by hand.
func code(l ...api.Instr) string {
	s := ""
	for _, i := range l {
		s += string([]byte{byte(i.Op), byte(i.A), byte(i.B), byte(i.C), byte(i.Imm), byte(i.Imm >> 8), byte(i.Imm >> 16), byte(i.Imm >> 24)})
	}
	return s
}

func set(a, imm int) api.Instr { return api.Instr{Op: api.OpSet, A: a, Imm: imm} }

func call(n int) api.Instr { return api.Instr{Op: api.OpCall, Imm: n} }

func load(a, b, imm, c int) api.Instr { return api.Instr{Op: api.OpLoad, A: a, B: b, C: c, Imm: imm} }

func store(a, b, imm, c int) api.Instr { return api.Instr{Op: api.OpStore, A: a, B: b, C: c, Imm: imm} }

// program: pages 1 to 4 to run, with these instructions (eight at most); 5 and 6 to write, 7 to read, 9 to write and to run.
func program(l ...api.Instr) api.Linked {
	s := code(l...)
	s += strings.Repeat("\x00", 4*api.PageSize-len(s))
	p := api.Linked{Entry: 16, Areas: []api.Area{{Page: 1, Pages: 4, Prot: 2}, {Page: 5, Pages: 2, Prot: 1}, {Page: 7, Pages: 1}, {Page: 9, Pages: 1, Prot: 3}}}
	for n := range 4 {
		p.Sheets = append(p.Sheets, api.Sheet{Page: 1 + n, Data: s[n*api.PageSize : (n+1)*api.PageSize]})
	}
	p.Sheets = append(p.Sheets,
		api.Sheet{Page: 5, Data: "0123456789abcdef", Fixes: []api.Fix{{Off: 1, Bytes: "X"}, {Off: 15, Bytes: "\xff"}}},
		api.Sheet{Page: 6, Data: "\xfe\xff\xff\xff\xff\xff\xff\xffmnopqrst"},
		api.Sheet{Page: 7, Data: "seven, seven, se"},
		api.Sheet{Page: 9, Data: "nine, nine, nine"})
	return p
}

// start: a machine of the program, with its process's registers.
func start(t *testing.T, frames, slots int, regs []int, l ...api.Instr) api.Machine {
	t.Helper()
	m, err := machine.New(program(l...), frames, slots)
	if err != api.OK {
		t.Fatalf("New: %d", err)
	}
	copy(m.Procs[0].Regs[:], regs)
	return m
}

func equalKernel(a, b api.Kernel) bool {
	return slices.Equal(a.Frames, b.Frames) && slices.Equal(a.Slots, b.Slots) && a.Hand == b.Hand &&
		slices.EqualFunc(a.Sheets, b.Sheets, func(a, b api.Sheet) bool {
			return a.Page == b.Page && a.Data == b.Data && slices.Equal(a.Fixes, b.Fixes)
		}) &&
		slices.EqualFunc(a.Spaces, b.Spaces, func(a, b api.Space) bool {
			return a.Live == b.Live && slices.Equal(a.Areas, b.Areas) && slices.Equal(a.Entries, b.Entries)
		})
}

func equal(a, b api.Machine) bool {
	return equalKernel(a.Kernel, b.Kernel) && slices.Equal(a.Procs, b.Procs) && slices.Equal(a.Out, b.Out)
}

func show(m api.Machine) string {
	s := fmt.Sprintf("told %v, hand %d\n", m.Out, m.Kernel.Hand)
	for _, p := range m.Procs {
		s += fmt.Sprintf("process %v\n", p)
	}
	for n, f := range m.Kernel.Frames {
		s += fmt.Sprintf("frame %d: %d, dirty %v, seen %v, %q\n", n, f.Refs, f.Dirty, f.Seen, f.Data)
	}
	for n, f := range m.Kernel.Slots {
		if f != (api.Slot{}) {
			s += fmt.Sprintf("slot %d: %d, %q\n", n, f.Refs, f.Data)
		}
	}
	for n, x := range m.Kernel.Spaces {
		s += fmt.Sprintf("space %d: %v %v %v\n", n, x.Live, x.Areas, x.Entries)
	}
	return s
}

func isNone(m api.Machine) bool { return equal(m, api.Machine{}) }

// copyOf: the machine, in memory of its own.
func copyOf(m api.Machine) api.Machine {
	k := m.Kernel
	c := api.Machine{Procs: slices.Clone(m.Procs), Out: slices.Clone(m.Out)}
	c.Kernel = api.Kernel{Sheets: slices.Clone(k.Sheets), Frames: slices.Clone(k.Frames), Slots: slices.Clone(k.Slots), Spaces: slices.Clone(k.Spaces), Hand: k.Hand}
	for n, s := range k.Sheets {
		c.Kernel.Sheets[n].Fixes = slices.Clone(s.Fixes)
	}
	for n, s := range k.Spaces {
		c.Kernel.Spaces[n].Areas, c.Kernel.Spaces[n].Entries = slices.Clone(s.Areas), slices.Clone(s.Entries)
	}
	return c
}

// turned: the machine, some of it another.
func turned(m api.Machine, turn func(*api.Machine)) api.Machine {
	c := copyOf(m)
	turn(&c)
	return c
}

// is: the machine that came is the one that is wanted, and is right.
func is(t *testing.T, name string, got, want api.Machine) {
	t.Helper()
	if !equal(got, want) {
		t.Errorf("%s: it is\n%sand must be\n%s", name, show(got), show(want))
	}
	if err := machine.Check(got); err != api.OK {
		t.Errorf("%s: it is not right: %d", name, err)
	}
}

// steps: the machine behind these picks, each a Step of its own.
func steps(t *testing.T, m api.Machine, picks ...int) api.Machine {
	t.Helper()
	for _, pick := range picks {
		n, err := machine.Step(m, pick)
		if err != api.OK {
			t.Fatalf("Step of %d: %d", pick, err)
		}
		if err := machine.Check(n); err != api.OK {
			t.Fatalf("Step of %d: what comes is not right: %d", pick, err)
		}
		m = n
	}
	return m
}

func run(t *testing.T, m api.Machine, picks ...int) api.Machine {
	t.Helper()
	n, err := machine.Run(m, picks)
	if err != api.OK {
		t.Fatalf("Run: %d", err)
	}
	return n
}

func peek(t *testing.T, m api.Machine, space, page int, want string) {
	t.Helper()
	if s, err := kernel.Peek(m.Kernel, space, page); s != want || err != api.OK {
		t.Errorf("space %d, page %d: %q %d, must be %q", space, page, s, err, want)
	}
}

// holds: what a mapped page has, wherever it is, told plainly.
func holds(k api.Kernel, space, page int, zero bool) string {
	for _, e := range k.Spaces[space].Entries {
		switch {
		case e.Page == page && e.Kind == api.Present:
			return k.Frames[e.At].Data
		case e.Page == page:
			return k.Slots[e.At].Data
		}
	}
	if zero {
		return zeros
	}
	n := slices.IndexFunc(k.Sheets, func(s api.Sheet) bool { return s.Page == page })
	data := k.Sheets[n].Data
	for _, f := range k.Sheets[n].Fixes {
		data = data[:f.Off] + f.Bytes + data[f.Off+len(f.Bytes):]
	}
	return data
}

// flatOf: the flat machine that has what this one has.
func flatOf(m api.Machine) api.Flat {
	f := api.Flat{Slots: len(m.Kernel.Slots), Procs: slices.Clone(m.Procs), Out: slices.Clone(m.Out)}
	for n, s := range m.Kernel.Spaces {
		x := api.FlatSpace{Live: s.Live, Areas: slices.Clone(s.Areas)}
		for _, a := range s.Areas {
			for page := a.Page; page < a.Page+a.Pages; page++ {
				x.Pages = append(x.Pages, api.FlatPage{Page: page, Data: holds(m.Kernel, n, page, a.Zero)})
			}
		}
		f.Spaces = append(f.Spaces, x)
	}
	return f
}

func equalSpace(a, b api.FlatSpace) bool {
	return a.Live == b.Live && slices.Equal(a.Areas, b.Areas) && slices.Equal(a.Pages, b.Pages)
}

func equalFlat(a, b api.Flat) bool {
	return a.Slots == b.Slots && slices.Equal(a.Procs, b.Procs) && slices.Equal(a.Out, b.Out) && slices.EqualFunc(a.Spaces, b.Spaces, equalSpace)
}

// inStep: both machines behind one Step, which must answer the same of both; spaces of others are as they were.
func inStep(t *testing.T, m api.Machine, f api.Flat, pick int) (api.Machine, api.Flat) {
	t.Helper()
	n, err := machine.Step(m, pick)
	g, want := flat.Step(f, pick)
	if err != want {
		t.Fatalf("Step of %d: %d, must be %d", pick, err, want)
	}
	if err != api.OK {
		if !isNone(n) {
			t.Fatalf("Step of %d: a machine comes with the error %d", pick, err)
		}
		return m, f
	}
	if err := machine.Check(n); err != api.OK {
		t.Fatalf("Step of %d: what comes is not right: %d\n%s", pick, err, show(n))
	}
	now := flatOf(n)
	if !equalFlat(now, g) {
		t.Fatalf("Step of %d: it is\n%sand must have\n%v\nit was\n%s", pick, show(n), g, show(m))
	}
	for other, s := range f.Spaces {
		if other != pick && !equalSpace(now.Spaces[other], s) {
			t.Fatalf("Step of %d: space %d is another", pick, other)
		}
	}
	return n, g
}

// peeked: Peek says the same of each page of each space, there or not.
func peeked(t *testing.T, m api.Machine, f api.Flat) {
	t.Helper()
	for space := -1; space <= api.MaxSpaces; space++ {
		for page := -1; page <= api.MaxPage+1; page++ {
			a, err := kernel.Peek(m.Kernel, space, page)
			b, want := flat.Peek(f, space, page)
			if a != b || err != want {
				t.Fatalf("Peek of %d, %d: %q %d, must be %q %d", space, page, a, err, b, want)
			}
		}
	}
}
