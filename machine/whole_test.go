package machine_test

import (
	"fmt"
	"slices"
	"testing"

	"foliant/api"
	"foliant/flat"
	"foliant/image"
	"foliant/link"
	"foliant/machine"
	"foliant/text"
)

// drawn: an instruction that does something, most of the time.
func drawn(r *draw) api.Instr {
	a, b := r.n(8), r.n(8)
	switch r.n(18) {
	case 0, 1:
		return set(3+r.n(5), 90+r.n(52)+r.n(2)*100)
	case 2:
		return api.Instr{Op: api.OpHere, A: a, Imm: 8 * (r.n(16) - 4)}
	case 3, 4, 5:
		return store(a, 3+r.n(5), r.n(24)-8, 1<<r.n(4))
	case 6, 7, 8:
		return load(a, 3+r.n(5), r.n(24)-8, 1<<r.n(4))
	case 9:
		return call([]int{1, 2, 3, 4, 5, 1, 2, 4, 5, 5, 6}[r.n(11)])
	case 10:
		return set(0, 1+r.n(16))
	case 11:
		return set(1+r.n(2), r.n(4))
	case 12:
		return api.Instr{Op: api.OpEqual + r.n(2), A: a, B: b, Imm: 8 * (r.n(6) - 2)}
	case 13:
		return api.Instr{Op: 1 + r.n(17), A: r.n(9), B: r.n(9), C: r.n(9), Imm: 8 * (r.n(6) - 2)}
	case 14:
		return api.Instr{Op: api.OpJump, Imm: []int{8, 16, -8, -16, 128, -128, 4}[r.n(7)]}
	case 15, 16:
		return call(api.CallFork)
	default:
		return api.Instr{Op: api.OpAdd + r.n(6), A: a, B: b, C: r.n(8)}
	}
}

func drawnCode(r *draw, many int) string {
	var l []api.Instr
	for range many {
		l = append(l, drawn(r))
	}
	return code(l...)
}

// linked: a drawn program of pages 1 to 5, with data in 6 to 8, and its library of pages 9, 10, 12 and 13; each has relocations to the other one, over the ends of pages.
func linked(t *testing.T, r *draw) api.Linked {
	t.Helper()
	main := api.Image{Name: "main", Needs: []string{"lib"}, Entry: 0, Segs: []api.Seg{
		{Pages: 5, Data: drawnCode(r, 10), Exec: true, Write: r.n(3) == 0},
		{Page: 5, Pages: 3, Data: "the program's data", Write: true, Exec: r.n(3) == 0},
	}, Syms: []api.Sym{{Name: "here", At: 16}}, Rels: []api.Rel{{At: 92, Name: "there", Add: 8 * r.n(3)}, {At: 108, Name: "here"}, {At: 116, Add: 5}}}
	lib := api.Image{Name: "lib", Needs: []string{"main"}, Entry: 0, Segs: []api.Seg{
		{Pages: 2, Data: drawnCode(r, 4), Exec: true},
		{Page: 3, Pages: 2, Data: "the library's", Write: r.n(4) > 0},
	}, Syms: []api.Sym{{Name: "there", At: 0}}, Rels: []api.Rel{{At: 60, Name: "here", Add: -8}}}
	l, err := link.Link(main, []api.Image{lib})
	if err != api.OK {
		t.Fatalf("Link: %d", err)
	}
	return l
}

// registers that point to what there is.
func registers(r *draw) [api.Regs]int {
	var regs [api.Regs]int
	for n := 3; n < api.Regs; n++ {
		regs[n] = 96 + r.n(44) + r.n(2)*96
	}
	return regs
}

// count what the machines came to, so that it is known that the programs do something.
func count(seen map[string]int, m api.Machine) {
	for _, p := range m.Procs {
		switch p.State {
		case api.Running:
			seen["running"]++
		case api.Exited:
			seen["exited"]++
		default:
			seen[fmt.Sprint("fault ", p.Fault.Kind)]++
		}
	}
	for _, f := range m.Kernel.Frames {
		seen["shared frames"] += max(f.Refs-1, 0)
	}
	for _, s := range m.Kernel.Slots {
		seen["slots"] += min(s.Refs, 1)
		seen["shared slots"] += max(s.Refs-1, 0)
	}
	seen["words"] += len(m.Out)
	seen[fmt.Sprint("spaces ", len(m.Procs))]++
}

func seenAll(t *testing.T, seen map[string]int) {
	t.Helper()
	for _, name := range []string{"running", "exited", "fault 1", "fault 2", "fault 3", "fault 4", "shared frames", "slots", "shared slots", "words", "spaces 1", "spaces 2", "spaces 4"} {
		if seen[name] < 10 {
			t.Errorf("%s: %d times only", name, seen[name])
		}
	}
}

// H2: drawn programs with a library come to what they come to on the flat machine, step by step and at once, with whatever frames.
func TestDrawnPrograms(t *testing.T) {
	r := draw(8)
	seen := map[string]int{}
	for round := range 250 {
		l, slots, regs := linked(t, &r), []int{12, 13, 24, 25, 36, 48, 60, 512}[r.n(8)], registers(&r)
		var picks []int
		for range 50 {
			picks = append(picks, r.n(6)*r.n(2)-r.n(2)*r.n(2))
		}
		f, err := flat.New(l, slots)
		if err != api.OK {
			t.Fatalf("New: %d", err)
		}
		f.Procs[0].Regs = regs
		whole, err := flat.Run(f, picks)
		if err != api.OK {
			t.Fatalf("Run: %d", err)
		}
		for _, frames := range []int{3, 4 + r.n(5), 64} {
			m, err := machine.New(l, frames, slots)
			if err != api.OK {
				t.Fatalf("New: %d", err)
			}
			m.Procs[0].Regs = regs
			first, g := m, f
			for _, pick := range picks {
				m, g = inStep(t, m, g, pick)
				count(seen, m)
			}
			is(t, "at once", run(t, first, picks...), m)
			if !equalFlat(g, whole) {
				t.Fatalf("the flat machine comes to another thing at once")
			}
			if round%10 == 0 {
				peeked(t, m, g)
			}
		}
	}
	seenAll(t, seen)
}

// named: the frames that entries name.
func named(k api.Kernel) []int {
	var l []int
	for n, f := range k.Frames {
		if f.Refs > 0 {
			l = append(l, n)
		}
	}
	return l
}

// rename: entries of that kind that name from are of the kind now, and name to.
func rename(k *api.Kernel, kind, from, now, to int) {
	for _, s := range k.Spaces {
		for n, e := range s.Entries {
			if e.Kind == kind && e.At == from {
				s.Entries[n].Kind, s.Entries[n].At = now, to
			}
		}
	}
}

// shake: the machine, in which all pages hold what they held, but pages are where no call would have put them.
func shake(r *draw, m api.Machine) api.Machine {
	return turned(m, func(m *api.Machine) {
		k := &m.Kernel
		k.Hand = r.n(len(k.Frames))
		if last := len(k.Sheets) - 1; k.Sheets[last].Page < 200 { // of a page that no space has
			k.Sheets = append(k.Sheets, api.Sheet{Page: 200, Data: zeros, Fixes: []api.Fix{{Off: 15, Bytes: "!"}}})
		}
		for _, at := range named(*k) {
			f := k.Frames[at]
			free := slices.Index(k.Slots, api.Slot{})
			switch r.n(6) {
			case 0:
				k.Frames[at].Seen = !f.Seen
			case 1:
				k.Frames[at].Dirty = true
			case 2:
				if free >= 0 { // clean ones too, to a slot
					k.Slots[free] = api.Slot{Data: f.Data, Refs: f.Refs}
					k.Frames[at] = api.Frame{}
					rename(k, api.Present, at, api.Swapped, free)
				}
			case 3:
				if to := slices.Index(k.Frames, api.Frame{}); to >= 0 {
					k.Frames[to], k.Frames[at] = f, api.Frame{}
					rename(k, api.Present, at, api.Present, to)
				}
			}
		}
		last := len(k.Slots) - 1
		if at := slices.IndexFunc(k.Slots, func(s api.Slot) bool { return s.Refs > 0 }); at >= 0 && k.Slots[last].Refs == 0 {
			k.Slots[last], k.Slots[at] = k.Slots[at], api.Slot{}
			rename(k, api.Swapped, at, api.Swapped, last)
		}
	})
}

// H1, H2: machines that no call has answered: right ones, of which the kernel is another way than it would come to, are what they were to the processes.
func TestShakenMachines(t *testing.T) {
	r := draw(9)
	seen := map[string]int{}
	for range 300 {
		m, err := machine.New(linked(t, &r), 3+r.n(6), []int{24, 36, 48, 90}[r.n(4)])
		if err != api.OK {
			t.Fatalf("New: %d", err)
		}
		m.Procs[0].Regs = registers(&r)
		f := flatOf(m)
		for n := range 60 {
			if n%4 == 3 {
				m = shake(&r, m)
				if err := machine.Check(m); err != api.OK {
					t.Fatalf("what was shaken is not right: %d\n%s", err, show(m))
				}
				for k := range m.Procs { // where they are, and what they point to, may be anything too
					if p := &m.Procs[k]; p.State == api.Running && r.n(4) == 0 {
						p.Regs, p.Pc = registers(&r), 16+8*r.n(10)
						f.Procs[k].Regs, f.Procs[k].Pc = p.Regs, p.Pc
					}
				}
			}
			m, f = inStep(t, m, f, r.n(5)*r.n(2))
			count(seen, m)
		}
	}
	seenAll(t, seen)
}

// H2, and the limits: four spaces of 128 pages each, as many as there may be slots; each process stores over the ends of nearly all of its pages.
func TestAllSlotsAreTaken(t *testing.T) {
	l := api.Linked{Entry: 16, Areas: []api.Area{{Page: 1, Pages: 4, Prot: api.Exec}, {Page: 5, Pages: 124, Prot: api.Write}}}
	s := code(set(1, 92), set(2, 2060), call(api.CallFork), call(api.CallFork), store(0, 1, 0, 8), api.Instr{Op: api.OpAddI, A: 1, B: 1, Imm: 16}, api.Instr{Op: api.OpLess, A: 1, B: 2, Imm: -16}, call(api.CallExit))
	for n := range 128 {
		data := "of a page to be."
		if n < 4 {
			data = s[16*n : 16*n+16]
		}
		l.Sheets = append(l.Sheets, api.Sheet{Page: 1 + n, Data: data})
	}
	f, err := flat.New(l, api.MaxSlots)
	if err != api.OK {
		t.Fatalf("New: %d", err)
	}
	var picks []int
	for n := range 1600 {
		picks = append(picks, n%4)
	}
	for _, frames := range []int{api.MinFrames, api.MaxFrames} {
		m, err := machine.New(l, frames, api.MaxSlots)
		if err != api.OK {
			t.Fatalf("New: %d", err)
		}
		most := 0
		for _, many := range []int{700, 1480, 1600} { // the last of them, when all have exited
			n := run(t, m, picks[:many]...)
			if want, _ := flat.Run(f, picks[:many]); !equalFlat(flatOf(n), want) || machine.Check(n) != api.OK {
				t.Errorf("%d frames, %d picks: it comes to another thing: %v, must be %v", frames, many, n.Procs, want.Procs)
			}
			taken := 0
			for _, s := range n.Kernel.Slots {
				taken += min(s.Refs, 1)
			}
			most = max(most, taken)
			if many == 1600 && (len(n.Procs) != 4 || taken > 0 || n.Procs[3].State != api.Exited) {
				t.Errorf("%d frames: at the end %d slots are taken: %v", frames, taken, n.Procs)
			}
		}
		if most < 400 {
			t.Errorf("%d frames: %d slots at most are taken: too few", frames, most)
		}
	}
}

// mainText: forks; then each of both calls three times into the library, whose address lies at 92, over a page's end.
const mainText = `set 7 3
here 1 84
load 2 1 0 8
fork
addi 4 0 10
here 3 16
go 2
addi 7 7 -1
less 5 7 -24
exit
`

// libText: adds to a number of its own, which lies at 60, over a page's end, and tells it.
const libText = `here 1 60
load 0 1 0 8
add 0 0 4
store 0 1 0 8
out
go 3
`

// assembled: an image with that text's bytes, and two pages behind them to be written; it was bytes on the way.
func assembled(t *testing.T, s, data string, i api.Image) api.Image {
	t.Helper()
	b, err := text.Assemble(s)
	if err != api.OK {
		t.Fatalf("Assemble: %d", err)
	}
	if l, err := text.List(b); l != s || err != api.OK {
		t.Fatalf("List: %q %d", l, err)
	}
	n := len(b) / api.PageSize
	i.Segs = []api.Seg{{Pages: n, Data: b, Exec: true}, {Page: n, Pages: 2, Data: data, Write: true}}
	w, err := image.Write(i)
	if err != api.OK {
		t.Fatalf("Write: %d", err)
	}
	i, err = image.Read(w)
	if err != api.OK {
		t.Fatalf("Read: %d", err)
	}
	return i
}

// told: the words of one process.
func told(l []api.Word, n int) []int {
	var values []int
	for _, w := range l {
		if w.Proc == n {
			values = append(values, w.Value)
		}
	}
	return values
}

// What the whole promises: images that were texts, linked, and run by turns on both machines, whatever frames there are; whoever runs when, each process comes to the same.
func TestFromTextOn(t *testing.T) {
	main := assembled(t, mainText, "", api.Image{Name: "main", Needs: []string{"lib"}, Rels: []api.Rel{{At: 92, Name: "count"}}})
	lib := assembled(t, libText, "twelve bytes\x05", api.Image{Name: "lib", Syms: []api.Sym{{Name: "count", At: 0}}})
	l, err := link.Link(main, []api.Image{lib})
	if err != api.OK {
		t.Fatalf("Link: %d", err)
	}
	r := draw(10)
	for n := range 60 {
		slots, want := 24, [][]int{{16, 27, 38}, {15, 25, 35}}
		if n%4 == 0 {
			slots, want = 23, [][]int{{14, 23, 32}} // no room to fork
		}
		m, err := machine.New(l, 3+r.n(3)*r.n(4), slots)
		if err != api.OK {
			t.Fatalf("New: %d", err)
		}
		f, _ := flat.New(l, slots)
		for range 400 {
			m, f = inStep(t, m, f, min(r.n(n+1), r.n(2)))
		}
		if len(m.Procs) != len(want) {
			t.Fatalf("%d processes, must be %d", len(m.Procs), len(want))
		}
		for k, words := range want {
			if p := m.Procs[k]; p.State != api.Exited || p.Code != words[2] || !slices.Equal(told(m.Out, k), words) {
				t.Errorf("process %d: %v, told %v, must be %v", k, p, told(m.Out, k), words)
			}
		}
		for _, f := range m.Kernel.Frames {
			if f != (api.Frame{}) {
				t.Errorf("all have exited, and there is %v", f)
			}
		}
	}
}
