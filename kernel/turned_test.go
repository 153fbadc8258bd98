package kernel_test

import (
	"math"
	"slices"
	"testing"

	"foliant/api"
	"foliant/area"
	"foliant/kernel"
	"foliant/link"
)

// named is an entry, and what its page is filled with, or that it has no area.
type named struct {
	api.Entry
	zero bool
	fill string
}

// entriesOf: all entries of all spaces, if points 1 to 3 of E1 hold, told plainly, one by one.
func entriesOf(k api.Kernel) ([]named, bool) {
	fills := map[int]string{}
	last := 0
	for _, s := range k.Sheets {
		data, err := link.Fill(s)
		if err != api.OK || s.Page <= last {
			return nil, false
		}
		fills[s.Page], last = data, s.Page
	}
	var all []named
	total := 0
	for _, s := range k.Spaces {
		if !s.Live && len(s.Areas)+len(s.Entries) > 0 || area.Check(s.Areas) != api.OK {
			return nil, false
		}
		total += area.Total(s.Areas)
		for _, a := range s.Areas {
			for n := range a.Pages {
				if _, ok := fills[a.Page+n]; !ok && !a.Zero {
					return nil, false
				}
			}
		}
		for n, e := range s.Entries {
			a, ok := area.Find(s.Areas, e.Page)
			if !ok || n > 0 && e.Page <= s.Entries[n-1].Page {
				return nil, false
			}
			fill := fills[e.Page]
			if a.Zero {
				fill = zeros
			}
			all = append(all, named{e, a.Zero, fill})
		}
	}
	return all, total <= len(k.Slots) && k.Hand >= 0 && k.Hand < len(k.Frames)
}

// rightAt: if the entries of that kind that name at are as many as refs, and all alike; clean, if data must be what their page is filled with.
func rightAt(all []named, kind, at, refs int, data string, clean bool) bool {
	var here []named
	for _, e := range all {
		if e.Kind == kind && e.At == at {
			here = append(here, e)
		}
	}
	if len(here) != refs || refs > 0 && len(data) != api.PageSize {
		return false
	}
	for _, e := range here {
		if e.Page != here[0].Page || e.zero != here[0].zero || clean && data != e.fill {
			return false
		}
	}
	return true
}

// byWords tells of E1 what Check must tell, word by word.
func byWords(k api.Kernel) api.Errno {
	if len(k.Frames) < 3 || len(k.Frames) > 64 || len(k.Slots) > 512 || len(k.Spaces) < 1 || len(k.Spaces) > 4 || len(k.Sheets) > 255 {
		return api.ErrMany
	}
	all, ok := entriesOf(k)
	if !ok {
		return api.ErrForm
	}
	for _, e := range all {
		if (e.Kind != api.Present || e.At < 0 || e.At >= len(k.Frames)) && (e.Kind != api.Swapped || e.At < 0 || e.At >= len(k.Slots)) {
			return api.ErrForm
		}
	}
	for n, f := range k.Frames {
		if !rightAt(all, api.Present, n, f.Refs, f.Data, !f.Dirty) || f.Refs == 0 && f != (api.Frame{}) {
			return api.ErrForm
		}
	}
	for n, s := range k.Slots {
		if !rightAt(all, api.Swapped, n, s.Refs, s.Data, false) || s.Refs == 0 && s != (api.Slot{}) {
			return api.ErrForm
		}
	}
	return api.OK
}

// number: one that is near another, or near an edge.
func number(r *draw, n int) int {
	if r.n(8) == 0 {
		return []int{math.MinInt, math.MaxInt, -1, 0, 1, 255, 256, math.MaxInt - 15}[r.n(8)]
	}
	return n + r.n(5) - 2
}

func page(r *draw) string {
	return []string{zeros, filled(4), filled(3), letters("!"), "", zeros[1:], zeros + "x"}[r.n(7)]
}

// turnFrame changes one field of a frame, or of a slot.
func turnFrame(r *draw, k *api.Kernel) {
	f := &k.Frames[r.n(len(k.Frames))]
	s := &k.Slots[r.n(4)]
	switch r.n(6) {
	case 0:
		f.Refs = number(r, f.Refs)
	case 1:
		f.Data = page(r)
	case 2:
		f.Dirty = !f.Dirty
	case 3:
		f.Seen = !f.Seen
	case 4:
		s.Refs = number(r, s.Refs)
	default:
		s.Data = page(r)
	}
}

// turnSpace changes one thing of a space.
func turnSpace(r *draw, k *api.Kernel) {
	s := &k.Spaces[r.n(len(k.Spaces))]
	if len(s.Areas) == 0 || len(s.Entries) == 0 {
		s.Live = !s.Live
		return
	}
	e, a := &s.Entries[r.n(len(s.Entries))], &s.Areas[r.n(len(s.Areas))]
	switch r.n(9) {
	case 0:
		e.Page = number(r, e.Page)
	case 1:
		e.Kind = number(r, e.Kind)
	case 2, 3:
		e.At = number(r, e.At)
	case 4:
		a.Page = number(r, a.Page)
	case 5:
		a.Pages = number(r, a.Pages)
	case 6:
		a.Prot = number(r, a.Prot)
	case 7:
		a.Zero = !a.Zero
	default:
		n := r.n(len(s.Entries))
		s.Entries = slices.Delete(s.Entries, n, n+1)
	}
}

// turned: the sample with one to three things changed; some changes mend one another.
func turned(r *draw) api.Kernel {
	k := sample()
	if r.n(2) == 0 {
		k.Slots = append(k.Slots, make([]api.Slot, 12)...)
	}
	for range 1 + r.n(3) {
		switch r.n(8) {
		case 0, 1, 2:
			turnFrame(r, &k)
		case 3, 4, 5, 6:
			turnSpace(r, &k)
		default:
			if n := r.n(len(k.Sheets)); r.n(2) == 0 {
				k.Sheets[n].Page = number(r, k.Sheets[n].Page)
			} else {
				k.Hand = number(r, k.Hand)
			}
		}
	}
	return k
}

// E1, E7, P1: of kernels that are turned here and there Check tells what the words do; none of the calls panics; what comes of a right one is right.
func TestTurnedKernels(t *testing.T) {
	r := draw(5)
	rightOnes, wrongOnes := 0, 0
	for range 20000 {
		k := turned(&r)
		err := kernel.Check(k)
		if want := byWords(k); err != want {
			t.Fatalf("Check: %d, must be %d:\n%s", err, want, show(k))
		}
		space := []int{0, 0, 2, 2, 1, 3}[r.n(6)]
		a := calls[r.n(len(calls))].do(k, space, r.n(4) > 0)
		if err != api.OK {
			wrongOnes++
			if !a.same(answer{err: err}) {
				t.Fatalf("%v, must be %d alone:\n%s", a, err, show(k))
			}
			continue
		}
		rightOnes++
		if len(a.k.Frames) > 0 {
			right(t, a.k)
		}
	}
	if rightOnes < 1000 || wrongOnes < 1000 {
		t.Errorf("%d are right, %d are not: too few", rightOnes, wrongOnes)
	}
}
