package flat_test

import (
	"slices"
	"testing"

	"foliant/api"
	"foliant/flat"
	"foliant/link"
)

// page is what the model knows of a page that is mapped.
type page struct {
	prot int
	zero bool
	data [api.PageSize]byte
}

// model is a machine that knows pages by their numbers, and does instructions in one long switch, without the program's packages.
type model struct {
	slots  int
	spaces []map[int]page // nil, if it is not Live
	procs  []api.Proc
	out    []api.Word
}

func newModel(f api.Flat) *model {
	m := &model{slots: f.Slots, procs: slices.Clone(f.Procs), out: slices.Clone(f.Out)}
	for _, s := range f.Spaces {
		var x map[int]page
		if s.Live {
			x = map[int]page{}
		}
		for _, p := range s.Pages {
			a := s.Areas[slices.IndexFunc(s.Areas, func(a api.Area) bool { return a.Page <= p.Page && p.Page < a.Page+a.Pages })]
			x[p.Page] = page{a.Prot, a.Zero, [api.PageSize]byte([]byte(p.Data))}
		}
		m.spaces = append(m.spaces, x)
	}
	return m
}

// flat: the machine as the program would have it.
func (m *model) flat() api.Flat {
	f := api.Flat{Slots: m.slots, Procs: m.procs, Out: m.out}
	for _, x := range m.spaces {
		s := api.FlatSpace{Live: x != nil}
		for n := 1; n <= api.MaxPage; n++ {
			p, ok := x[n]
			if !ok {
				continue
			}
			s.Pages = append(s.Pages, api.FlatPage{Page: n, Data: string(p.data[:])})
			if last := len(s.Areas) - 1; last >= 0 && s.Areas[last].Page+s.Areas[last].Pages == n && s.Areas[last].Prot == p.prot && s.Areas[last].Zero == p.zero {
				s.Areas[last].Pages++
			} else {
				s.Areas = append(s.Areas, api.Area{Page: n, Pages: 1, Prot: p.prot, Zero: p.zero})
			}
		}
		f.Spaces = append(f.Spaces, s)
	}
	return f
}

func (m *model) total() int {
	n := 0
	for _, x := range m.spaces {
		n += len(x)
	}
	return n
}

func (m *model) kill(n, kind, addr int) {
	m.procs[n].State, m.procs[n].Fault = api.Killed, api.Fault{Kind: kind, Addr: addr}
	m.spaces[n] = nil
}

// may: if these bytes may be reached; else the process is killed.
func (m *model) may(n, addr, size, right int) bool {
	for k := range size {
		p, ok := m.spaces[n][(addr+k)>>4]
		switch {
		case !ok:
			m.kill(n, api.FaultMap, addr+k)
			return false
		case p.prot&right != right:
			m.kill(n, api.FaultRight, addr+k)
			return false
		}
	}
	return true
}

func (m *model) byteAt(n, addr int) byte { return m.spaces[n][addr>>4].data[addr&15] }

func (m *model) step(n int) {
	p := &m.procs[n]
	if p.State != api.Running {
		return
	}
	if p.Pc&7 != 0 {
		m.kill(n, api.FaultAlign, p.Pc)
		return
	}
	if !m.may(n, p.Pc, 8, api.Exec) {
		return
	}
	var b [8]byte
	for k := range b {
		b[k] = m.byteAt(n, p.Pc+k)
	}
	i := api.Instr{Op: int(b[0]), A: int(b[1]), B: int(b[2]), C: int(b[3]), Imm: int(int32(uint32(b[4]) | uint32(b[5])<<8 | uint32(b[6])<<16 | uint32(b[7])<<24))}
	if m.bad(i) {
		m.kill(n, api.FaultCode, p.Pc)
		return
	}
	m.do(n, i)
}

func (m *model) bad(i api.Instr) bool {
	needs := map[int]int{1: 1, 2: 3, 3: 3, 4: 3, 5: 3, 6: 3, 7: 3, 8: 2, 9: 2, 10: 2, 11: 1, 12: 0, 13: 2, 14: 2, 15: 1, 16: 0}
	n, ok := needs[i.Op]
	return !ok || n > 0 && i.A > 7 || n > 1 && i.B > 7 || n > 2 && i.C > 7 ||
		(i.Op == api.OpLoad || i.Op == api.OpStore) && i.C != 1 && i.C != 2 && i.C != 4 && i.C != 8 ||
		i.Op == api.OpCall && (i.Imm < 1 || i.Imm > 6)
}

// do: what an instruction that is not bad does.
func (m *model) do(n int, i api.Instr) {
	p := &m.procs[n]
	a, b, c := &p.Regs[i.A&7], p.Regs[i.B&7], p.Regs[i.C&7]
	next := p.Pc + 8
	switch i.Op {
	case api.OpSet:
		*a = i.Imm
	case api.OpAdd:
		*a = b + c
	case api.OpSub:
		*a = b - c
	case api.OpMul:
		*a = b * c
	case api.OpAnd:
		*a = b & c
	case api.OpXor:
		*a = b ^ c
	case api.OpShr:
		*a = int(uint(b) >> uint(c&63))
	case api.OpAddI:
		*a = b + i.Imm
	case api.OpHere:
		*a = p.Pc + i.Imm
	case api.OpJump:
		next = p.Pc + i.Imm
	case api.OpEqual:
		if *a == b {
			next = p.Pc + i.Imm
		}
	case api.OpLess:
		if *a < b {
			next = p.Pc + i.Imm
		}
	case api.OpGo:
		next = *a
	case api.OpLoad:
		if !m.may(n, b+i.Imm, i.C, 0) {
			return
		}
		var v uint64
		for k := range i.C {
			v |= uint64(m.byteAt(n, b+i.Imm+k)) << (8 * k)
		}
		*a = int(v)
	case api.OpStore:
		if !m.may(n, b+i.Imm, i.C, api.Write) {
			return
		}
		for k := range i.C {
			at := b + i.Imm + k
			x := m.spaces[n][at>>4]
			x.data[at&15] = byte(*a >> (8 * k))
			m.spaces[n][at>>4] = x
		}
	case api.OpCall:
		m.call(n, i.Imm)
		p = &m.procs[n] // a fork may have moved them
	}
	p.Pc = next
}

func (m *model) call(n, call int) {
	p := &m.procs[n]
	first, many, prot := p.Regs[0], p.Regs[1], p.Regs[2]
	switch call {
	case api.CallOut:
		m.out = append(m.out, api.Word{Proc: n, Value: first})
	case api.CallFork:
		m.fork(n)
	case api.CallExit:
		p.State, p.Code = api.Exited, first
		m.spaces[n] = nil
	default:
		p.Regs[0] = int(m.pages(n, call, first, many, prot))
	}
}

func (m *model) fork(n int) {
	if len(m.spaces) == api.MaxSpaces || m.total()+len(m.spaces[n]) > m.slots {
		m.procs[n].Regs[0] = -1
		return
	}
	x := map[int]page{}
	for k, p := range m.spaces[n] {
		x[k] = p
	}
	child := m.procs[n]
	child.Pc += 8
	child.Regs[0] = 0
	m.procs[n].Regs[0] = len(m.procs)
	m.procs, m.spaces = append(m.procs, child), append(m.spaces, x)
}

func (m *model) pages(n, call, first, many, prot int) api.Errno {
	x := m.spaces[n]
	if first < 1 || first > api.MaxPage || many < 1 || many > 256-first || call != api.CallUnmap && prot&^3 != 0 {
		return api.ErrRange
	}
	mapped := 0
	for k := range many {
		if _, ok := x[first+k]; ok {
			mapped++
		}
	}
	switch {
	case call == api.CallMap && mapped > 0:
		return api.ErrThere
	case call == api.CallMap && m.total()+many > m.slots:
		return api.ErrRoom
	case call == api.CallProtect && mapped < many:
		return api.ErrNone
	}
	for k := first; k < first+many; k++ {
		switch call {
		case api.CallMap:
			x[k] = page{prot: prot, zero: true}
		case api.CallUnmap:
			delete(x, k)
		case api.CallProtect:
			p := x[k]
			p.prot = prot
			x[k] = p
		}
	}
	return api.OK
}

// drawn: an instruction that does something, most of the time.
func drawn(r *draw) api.Instr {
	a, b := r.n(8), r.n(8)
	switch r.n(18) {
	case 0, 1:
		return set(3+r.n(5), 76+r.n(80))
	case 2:
		return api.Instr{Op: api.OpHere, A: a, Imm: 8 * (r.n(16) - 4)}
	case 3, 4:
		return store(a, 3+r.n(5), r.n(24)-8, 1<<r.n(4))
	case 5, 6:
		return load(a, 3+r.n(5), r.n(24)-8, 1<<r.n(4))
	case 7:
		return call([]int{1, 2, 3, 4, 5, 1, 2, 4, 5, 5, 6}[r.n(11)])
	case 8:
		return set(0, 1+r.n(14))
	case 9:
		return set(1, 1+r.n(4))
	case 10:
		return set(2, r.n(4))
	case 11:
		return api.Instr{Op: api.OpEqual + r.n(2), A: a, B: b, Imm: 8 * (r.n(6) - 2)}
	case 12:
		return api.Instr{Op: 1 + r.n(17), A: r.n(9), B: r.n(9), C: r.n(9), Imm: 8 * (r.n(6) - 2)}
	case 13:
		return api.Instr{Op: api.OpGo, A: a}
	case 14:
		return api.Instr{Op: api.OpJump, Imm: 4 * (r.n(12) - 4)}
	case 15, 16:
		return call(api.CallFork)
	default:
		return api.Instr{Op: api.OpAdd + r.n(6), A: a, B: b, C: r.n(8)}
	}
}

// began: a machine of drawn instructions, whose registers point to its pages.
func began(t *testing.T, r *draw) api.Flat {
	var l []api.Instr
	for range 8 {
		l = append(l, drawn(r))
	}
	p := program(l...)
	p.Areas[0].Prot += r.n(2) // code that may be stored into, at times
	f, err := flat.New(p, []int{8, 12, 16, 24, 32, 40, 60}[r.n(7)])
	if err != api.OK {
		t.Fatalf("New: %d", err)
	}
	for n := 3; n < 8; n++ {
		f.Procs[0].Regs[n] = 80 + 8*r.n(10)
	}
	return f
}

// G2 to G5: machines of drawn programs come to what the model comes to, step by step and at once.
func TestDrawnPrograms(t *testing.T) {
	r := draw(7)
	seen := map[string]int{}
	for range 1500 {
		f := began(t, &r)
		first, m := f, newModel(f)
		var picks []int
		for range 40 {
			pick := r.n(5) * r.n(2)
			picks = append(picks, pick)
			n, err := flat.Step(f, pick)
			if pick >= len(m.procs) {
				if err != api.ErrNone || !isNone(n) {
					t.Fatalf("Step of %d, where there are %d: %v %d", pick, len(m.procs), n, err)
				}
				continue
			}
			m.step(pick)
			if err != api.OK || flat.Check(n) != api.OK || !equal(n, m.flat()) {
				t.Fatalf("Step of %d: %d, Check %d\n%smust be\n%sand was\n%s", pick, err, flat.Check(n), show(n), show(m.flat()), show(f))
			}
			f = n
		}
		if n, err := flat.Run(first, picks); err != api.OK || !equal(n, f) {
			t.Fatalf("Run: %d\n%smust be\n%s", err, show(n), show(f))
		}
		count(seen, f)
	}
	for _, name := range []string{"running", "exited", "FaultMap", "FaultRight", "FaultAlign", "FaultCode", "words", "four spaces"} {
		if seen[name] < 10 {
			t.Errorf("%s: %d times only", name, seen[name])
		}
	}
}

// count what the machines came to, so that it is known that the programs do something.
func count(seen map[string]int, f api.Flat) {
	for _, p := range f.Procs {
		switch p.State {
		case api.Running:
			seen["running"]++
		case api.Exited:
			seen["exited"]++
		default:
			seen[[]string{"", "FaultMap", "FaultRight", "FaultAlign", "FaultCode"}[p.Fault.Kind]]++
		}
	}
	if len(f.Out) > 0 {
		seen["words"]++
	}
	if len(f.Spaces) == api.MaxSpaces {
		seen["four spaces"]++
	}
}

// G2 to G4, and chapter 4: a program that calls into its library by a relocation, both linked.
func TestALinkedProgram(t *testing.T) {
	main := api.Image{Name: "main", Needs: []string{"lib"}, Segs: []api.Seg{
		{Pages: 3, Data: code(api.Instr{Op: api.OpHere, A: 1, Imm: 48}, load(2, 1, 4, 8), api.Instr{Op: api.OpHere, A: 3, Imm: 8}, api.Instr{Op: api.OpGo, A: 2}, call(api.CallExit)), Exec: true},
		{Page: 3, Pages: 1, Write: true},
	}, Rels: []api.Rel{{At: 52, Name: "go"}}}
	lib := api.Image{Name: "lib", Segs: []api.Seg{{Pages: 1, Data: code(set(0, 42), call(api.CallOut)), Exec: true}, {Page: 1, Pages: 1, Data: code(api.Instr{Op: api.OpAddI, A: 3, B: 3, Imm: 8}, api.Instr{Op: api.OpGo, A: 3}), Exec: true}}, Syms: []api.Sym{{Name: "go", At: 0}}}
	l, err := link.Link(main, []api.Image{lib})
	if err != api.OK {
		t.Fatal(err)
	}
	f, err := flat.New(l, 6)
	if err != api.OK {
		t.Fatal(err)
	}
	f = run(t, f, make([]int, 20)...)
	want := api.Proc{Regs: [api.Regs]int{42, 64, 80, 48}, Pc: 56, State: api.Exited, Code: 42}
	if f.Procs[0] != want || !slices.Equal(f.Out, []api.Word{{Proc: 0, Value: 42}}) {
		t.Errorf("%v %v, must be %v", f.Procs[0], f.Out, want)
	}
}
