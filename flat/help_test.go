package flat_test

import (
	"fmt"
	"math"
	"slices"
	"strings"
	"testing"

	"foliant/api"
	"foliant/flat"
)

const (
	least    = math.MinInt
	greatest = math.MaxInt
	pages    = 8 // of the program
)

var zeros = strings.Repeat("\x00", api.PageSize)

// draw: numbers for scripts that are long; the same each time.
type draw uint64

func (d *draw) n(n int) int {
	*d = *d*6364136223846793005 + 1442695040888963407
	return int(uint64(*d) >> 33 % uint64(n))
}

// code: the bytes of instructions, made by hand.
func code(l ...api.Instr) string {
	s := ""
	for _, i := range l {
		s += string([]byte{byte(i.Op), byte(i.A), byte(i.B), byte(i.C), byte(i.Imm), byte(i.Imm >> 8), byte(i.Imm >> 16), byte(i.Imm >> 24)})
	}
	return s
}

func set(a, imm int) api.Instr { return api.Instr{Op: api.OpSet, A: a, Imm: imm} }

func call(n int) api.Instr { return api.Instr{Op: api.OpCall, Imm: n} }

func load(a, b, imm, c int) api.Instr { return api.Instr{Op: api.OpLoad, A: a, B: b, C: c, Imm: imm} }

func store(a, b, imm, c int) api.Instr { return api.Instr{Op: api.OpStore, A: a, B: b, C: c, Imm: imm} }

// program: pages 1 to 4 to run, with these instructions (eight at most); 5 and 6 to write, 7 to read, 9 to write and to run.
func program(l ...api.Instr) api.Linked {
	s := code(l...)
	s += strings.Repeat("\x00", 4*api.PageSize-len(s))
	p := api.Linked{Entry: 16, Areas: []api.Area{{Page: 1, Pages: 4, Prot: 2}, {Page: 5, Pages: 2, Prot: 1}, {Page: 7, Pages: 1}, {Page: 9, Pages: 1, Prot: 3}}}
	for n := range 4 {
		p.Sheets = append(p.Sheets, api.Sheet{Page: 1 + n, Data: s[n*api.PageSize : (n+1)*api.PageSize]})
	}
	return api.Linked{Entry: p.Entry, Areas: p.Areas, Sheets: append(p.Sheets,
		api.Sheet{Page: 5, Data: "0123456789abcdef", Fixes: []api.Fix{{Off: 1, Bytes: "X"}, {Off: 15, Bytes: "\xff"}}},
		api.Sheet{Page: 6, Data: "\xfe\xff\xff\xff\xff\xff\xff\xffmnopqrst"},
		api.Sheet{Page: 7, Data: "seven, seven, se"},
		api.Sheet{Page: 9, Data: "nine, nine, nine"})}
}

// start: a machine of the program, with its process's registers.
func start(t *testing.T, slots int, regs []int, l ...api.Instr) api.Flat {
	t.Helper()
	f, err := flat.New(program(l...), slots)
	if err != api.OK {
		t.Fatalf("New: %d", err)
	}
	copy(f.Procs[0].Regs[:], regs)
	return f
}

func equal(a, b api.Flat) bool {
	return a.Slots == b.Slots && slices.Equal(a.Procs, b.Procs) && slices.Equal(a.Out, b.Out) &&
		slices.EqualFunc(a.Spaces, b.Spaces, func(a, b api.FlatSpace) bool {
			return a.Live == b.Live && slices.Equal(a.Areas, b.Areas) && slices.Equal(a.Pages, b.Pages)
		})
}

func show(f api.Flat) string {
	s := fmt.Sprintf("%d slots, told %v\n", f.Slots, f.Out)
	for _, p := range f.Procs {
		s += fmt.Sprintf("process %v\n", p)
	}
	for _, x := range f.Spaces {
		s += fmt.Sprintf("space, live %v, areas %v\n", x.Live, x.Areas)
		for _, p := range x.Pages {
			s += fmt.Sprintf("page %d %q\n", p.Page, p.Data)
		}
	}
	return s
}

func isNone(f api.Flat) bool {
	return f.Slots == 0 && len(f.Spaces) == 0 && len(f.Procs) == 0 && len(f.Out) == 0
}

// copyOf: the machine, in memory of its own.
func copyOf(f api.Flat) api.Flat {
	c := api.Flat{Slots: f.Slots, Procs: slices.Clone(f.Procs), Out: slices.Clone(f.Out)}
	for _, s := range f.Spaces {
		c.Spaces = append(c.Spaces, api.FlatSpace{Live: s.Live, Areas: slices.Clone(s.Areas), Pages: slices.Clone(s.Pages)})
	}
	return c
}

// turned: the machine, some of it another.
func turned(f api.Flat, turn func(*api.Flat)) api.Flat {
	c := copyOf(f)
	turn(&c)
	return c
}

// is: the machine that came is the one that is wanted, and is right.
func is(t *testing.T, name string, got, want api.Flat) {
	t.Helper()
	if !equal(got, want) {
		t.Errorf("%s: it is\n%sand must be\n%s", name, show(got), show(want))
	}
	if err := flat.Check(got); err != api.OK {
		t.Errorf("%s: it is not right: %d", name, err)
	}
}

// steps: the machine behind these picks, each a Step of its own.
func steps(t *testing.T, f api.Flat, picks ...int) api.Flat {
	t.Helper()
	for _, pick := range picks {
		n, err := flat.Step(f, pick)
		if err != api.OK {
			t.Fatalf("Step of %d: %d", pick, err)
		}
		if err := flat.Check(n); err != api.OK {
			t.Fatalf("Step of %d: what comes is not right: %d", pick, err)
		}
		f = n
	}
	return f
}

func peek(t *testing.T, f api.Flat, space, page int, want string) {
	t.Helper()
	if s, err := flat.Peek(f, space, page); s != want || err != api.OK {
		t.Errorf("space %d, page %d: %q %d, must be %q", space, page, s, err, want)
	}
}

// dead: a process that is killed, and its space.
func dead(f *api.Flat, n, kind, addr int) {
	f.Procs[n].State, f.Procs[n].Fault = api.Killed, api.Fault{Kind: kind, Addr: addr}
	f.Spaces[n] = api.FlatSpace{}
}
