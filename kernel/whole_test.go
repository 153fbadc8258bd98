package kernel_test

import (
	"fmt"
	"strings"
	"testing"

	"foliant/api"
	"foliant/area"
	"foliant/kernel"
)

// draw is a script of numbers, the same each time.
type draw uint64

func (d *draw) n(n int) int {
	*d = *d*6364136223846793005 + 1442695040888963407
	return int(uint64(*d) >> 33 % uint64(n))
}

// plain is a space all of whose pages are there; nil, if it is not Live.
type plain map[int]leaf

type leaf struct {
	data string
	prot int
}

func plainProgram() plain {
	p := plain{}
	for _, a := range program().Areas {
		for n := range a.Pages {
			p[a.Page+n] = leaf{filled(a.Page + n), a.Prot}
		}
	}
	return p
}

// fault: as the chapter has it, byte by byte.
func (p plain) fault(addr, size, way int) api.Fault {
	if way == api.ToRun && addr%8 != 0 {
		return api.Fault{Kind: api.FaultAlign, Addr: addr}
	}
	for n := range size {
		l, ok := p[(addr+n)/16]
		switch {
		case !ok:
			return api.Fault{Kind: api.FaultMap, Addr: addr + n}
		case way == api.ToWrite && l.prot&1 == 0, way == api.ToRun && l.prot&2 == 0:
			return api.Fault{Kind: api.FaultRight, Addr: addr + n}
		}
	}
	return api.Fault{}
}

func (p plain) load(addr, size int) string {
	s := ""
	for n := range size {
		s += p[(addr+n)/16].data[(addr+n)%16:][:1]
	}
	return s
}

func (p plain) store(addr int, s string) {
	for n := range len(s) {
		l := p[(addr+n)/16]
		at := (addr + n) % 16
		l.data = l.data[:at] + s[n:n+1] + l.data[at+1:]
		p[(addr+n)/16] = l
	}
}

func (p plain) clone() plain {
	c := plain{}
	for page, l := range p {
		c[page] = l
	}
	return c
}

// world is a kernel, and what each of its spaces must hold.
type world struct {
	t      *testing.T
	k      api.Kernel
	spaces []plain
}

func (w *world) total() int {
	n := 0
	for _, p := range w.spaces {
		n += len(p)
	}
	return n
}

// same: the kernel is right, and each page of each space is what it must be.
func (w *world) same() {
	w.t.Helper()
	if err := kernel.Check(w.k); err != api.OK {
		w.t.Fatalf("not right: %d:\n%s", err, show(w.k))
	}
	for space, p := range w.spaces {
		if p == nil {
			continue
		}
		if n := area.Total(w.k.Spaces[space].Areas); n != len(p) {
			w.t.Fatalf("space %d: %d pages, must be %d", space, n, len(p))
		}
		for page, l := range p {
			if s, err := kernel.Peek(w.k, space, page); s != l.data || err != api.OK {
				w.t.Fatalf("space %d, page %d: %q %d, must be %q:\n%s", space, page, s, err, l.data, show(w.k))
			}
		}
	}
}

// keep takes the kernel that came with OK and no fault, and asks that none came else.
func (w *world) keep(k api.Kernel, f api.Fault, err, want api.Errno) bool {
	w.t.Helper()
	if err != want {
		w.t.Fatalf("error %d, must be %d:\n%s", err, want, show(w.k))
	}
	if err != api.OK || f != (api.Fault{}) {
		if !equal(k, api.Kernel{}) {
			w.t.Fatalf("a kernel comes with %v %d", f, err)
		}
		return false
	}
	w.k = k
	return true
}

// brought: the pages of these bytes are there, and Seen; to write, they are Dirty, and of this space alone.
func (w *world) brought(space, addr, size, way int) {
	w.t.Helper()
	for page := addr / 16; page <= (addr+size-1)/16; page++ {
		found := false
		for _, e := range w.k.Spaces[space].Entries {
			if e.Page != page || e.Kind != api.Present {
				continue
			}
			f := w.k.Frames[e.At]
			found = f.Seen && (way != api.ToWrite || f.Dirty && f.Refs == 1)
		}
		if !found {
			w.t.Fatalf("space %d, page %d was not brought:\n%s", space, page, show(w.k))
		}
	}
}

func (w *world) bytes(r *draw, space int) {
	w.t.Helper()
	p := w.spaces[space]
	addr, size, way := r.n(160), 1+r.n(8), r.n(3)
	if r.n(3) > 0 {
		addr = 48 + r.n(56)
	}
	if way == api.ToRun && r.n(4) > 0 {
		addr -= addr % 8
	}
	want := p.fault(addr, size, way)
	s := strings.Repeat(string(rune('A'+r.n(50))), size)
	for kind := range 2 {
		var n api.Kernel
		var f api.Fault
		var err api.Errno
		got := ""
		switch {
		case kind == 0 && r.n(2) == 0:
			n, f, err = kernel.Reach(w.k, space, addr, size, way)
		case way == api.ToWrite:
			n, f, err = kernel.Store(w.k, space, addr, s)
			if want == (api.Fault{}) {
				p.store(addr, s)
			}
		default:
			n, got, f, err = kernel.Load(w.k, space, addr, size, way)
			if want == (api.Fault{}) && got != p.load(addr, size) {
				w.t.Fatalf("loaded is %q, must be %q", got, p.load(addr, size))
			}
		}
		if f != want {
			w.t.Fatalf("at %d, size %d, way %d: %v, must be %v", addr, size, way, f, want)
		}
		if w.keep(n, f, err, api.OK) {
			w.brought(space, addr, size, way)
		}
	}
}

func (w *world) areas(r *draw, space int) {
	w.t.Helper()
	p := w.spaces[space]
	page, pages, prot := 1+r.n(10), 1+r.n(3), r.n(4)
	mapped := 0
	for n := range pages {
		if _, ok := p[page+n]; ok {
			mapped++
		}
	}
	switch r.n(3) {
	case 0:
		k, err := kernel.Map(w.k, space, page, pages, prot)
		want := api.OK
		if mapped > 0 {
			want = api.ErrThere
		} else if w.total()+pages > len(w.k.Slots) {
			want = api.ErrRoom
		}
		if w.keep(k, api.Fault{}, err, want) {
			for n := range pages {
				p[page+n] = leaf{zeros, prot}
			}
		}
	case 1:
		k, err := kernel.Unmap(w.k, space, page, 1)
		if w.keep(k, api.Fault{}, err, api.OK) {
			delete(p, page)
		}
	default:
		k, err := kernel.Protect(w.k, space, page, pages, prot|api.Write)
		want := api.OK
		if mapped < pages {
			want = api.ErrNone
		}
		if w.keep(k, api.Fault{}, err, want) {
			for n := range pages {
				p[page+n] = leaf{p[page+n].data, prot | api.Write}
			}
		}
	}
}

func (w *world) fork(space int) {
	w.t.Helper()
	k, n, err := kernel.Fork(w.k, space)
	want := api.OK
	if len(w.spaces) == api.MaxSpaces {
		want = api.ErrMany
	} else if w.total()+len(w.spaces[space]) > len(w.k.Slots) {
		want = api.ErrRoom
	}
	if w.keep(k, api.Fault{}, err, want) {
		w.spaces = append(w.spaces, w.spaces[space].clone())
		if n != len(w.spaces)-1 {
			w.t.Fatalf("the forked space is %d", n)
		}
	} else if n != 0 {
		w.t.Fatalf("a number comes with an error: %d", n)
	}
}

// E3 to E7, and what the whole promises: long scripts against spaces all of whose pages are there.
func TestScriptsAgainstPlainSpaces(t *testing.T) {
	for seed := range 24 {
		frames, slots := []int{3, 4, 5, 64}[seed%4], []int{7, 14, 20, 60}[seed/4%4]
		t.Run(fmt.Sprintf("%d frames, %d slots, script %d", frames, slots, seed), func(t *testing.T) {
			r := draw(seed)
			w := &world{t: t, k: begin(t, frames, slots), spaces: []plain{plainProgram()}}
			for range 400 {
				space := r.n(len(w.spaces))
				if w.spaces[space] == nil {
					continue
				}
				switch r.n(12) {
				case 0, 1:
					w.areas(&r, space)
				case 2:
					w.fork(space)
				case 3:
					if space > 1 && r.n(4) == 0 {
						k, err := kernel.Drop(w.k, space)
						if w.keep(k, api.Fault{}, err, api.OK) {
							w.spaces[space] = nil
						}
					}
				default:
					w.bytes(&r, space)
				}
				w.same()
			}
		})
	}
}

// E7: with just as many slots as pages, and all of them written, a slot is always there.
func TestASlotIsAlwaysThere(t *testing.T) {
	for _, frames := range []int{3, 4, 9} {
		k := begin(t, frames, 4*pages)
		k = fork(t, fork(t, fork(t, k, 0), 0), 1)
		for space := range 4 {
			var err api.Errno
			if k, err = kernel.Protect(k, space, 1, 6, 1); err != api.OK {
				t.Fatal(err)
			}
		}
		for round := range 5 {
			for space := range 4 {
				for addr := 16; addr < 112; addr += 5 {
					k = store(t, k, (space+addr*round)%4, min(addr, 104), fmt.Sprintf("%08d", round*1000+space))
				}
			}
			k = store(t, k, round%4, 128, "last")
		}
	}
}

// E7: Reach changes nothing of what Peek tells, of whatever page, of kernels that no call has answered too.
func TestReachChangesNothingThatIsSeen(t *testing.T) {
	for _, space := range []int{0, 2} {
		for addr := 16; addr < 352; addr++ {
			for _, way := range []int{api.ToRead, api.ToWrite, api.ToRun} {
				k := sample()
				n, f, err := kernel.Reach(k, space, addr, 8, way)
				if f != (api.Fault{}) || err != api.OK {
					continue
				}
				right(t, n)
				for _, other := range []int{0, 2} {
					for page := 1; page <= 21; page++ {
						want, wantErr := kernel.Peek(k, other, page)
						if got, err := kernel.Peek(n, other, page); got != want || err != wantErr {
							t.Fatalf("way %d at %d of space %d: page %d of space %d was %q, is %q", way, addr, space, page, other, want, got)
						}
					}
				}
			}
		}
	}
}
