package kernel_test

import (
	"math"
	"slices"
	"testing"

	"foliant/api"
	"foliant/area"
	"foliant/kernel"
)

// E5
func TestPeek(t *testing.T) {
	k := sample()
	right(t, k)
	for _, c := range []struct {
		space, page int
		want        string
	}{
		{0, 1, filled(1)}, {0, 2, filled(2)}, {0, 3, letters("!")}, {0, 4, filled(4)}, {0, 5, letters("+")}, {0, 6, filled(6)}, {0, 8, filled(8)}, {0, 20, zeros}, {0, 21, zeros},
		{2, 1, filled(1)}, {2, 3, letters("?")}, {2, 4, filled(4)}, {2, 5, letters("+")}, {2, 20, zeros}, {2, 21, zeros},
	} {
		peek(t, k, c.space, c.page, c.want)
	}
	for _, page := range append([]int{0, 7, 9, 19, 22, 255, 256}, edges...) {
		if s, err := kernel.Peek(k, 0, page); s != "" || err != api.ErrNone {
			t.Errorf("page %d: %q %d", page, s, err)
		}
	}
	if s, err := kernel.Peek(k, 1, 1); s != "" || err != api.ErrNone {
		t.Errorf("of a space that is not Live: %q %d", s, err)
	}
	is(t, k, sample())
}

// change is one of Map, Unmap and Protect, of the kernel and of areas alone.
type change struct {
	name   string
	kernel func(k api.Kernel, space, page, pages, prot int) (api.Kernel, api.Errno)
	area   func(l []api.Area, page, pages, prot int) ([]api.Area, api.Errno)
}

var changes = []change{
	{"Map", kernel.Map, area.Map},
	{"Unmap", func(k api.Kernel, space, page, pages, _ int) (api.Kernel, api.Errno) {
		return kernel.Unmap(k, space, page, pages)
	}, func(l []api.Area, page, pages, _ int) ([]api.Area, api.Errno) { return area.Unmap(l, page, pages) }},
	{"Protect", kernel.Protect, area.Protect},
}

// E6, P1: errors are chapter 3's, of the space's areas, ahead of ErrRoom; areas are as there.
func TestAreasAreAsInChapterThree(t *testing.T) {
	numbers := append([]int{0, 1, 2, 3, 5, 6, 7, 9, 19, 20, 21, 22, 254, 255, 256}, edges...)
	for _, c := range changes {
		for _, page := range numbers {
			for _, pages := range append([]int{0, 1, 2, 3, 4, 255}, edges...) {
				for _, prot := range []int{0, 3, 4, -1, math.MinInt} {
					k := sample()
					k.Slots = append(k.Slots, make([]api.Slot, 400)...)
					l, want := c.area(k.Spaces[2].Areas, page, pages, prot)
					got, err := c.kernel(k, 2, page, pages, prot)
					if err != want {
						t.Fatalf("%s of %d, %d pages, %d: %d, must be %d", c.name, page, pages, prot, err, want)
					}
					if err != api.OK {
						if !equal(got, api.Kernel{}) {
							t.Fatalf("%s: with an error comes %s", c.name, show(got))
						}
						continue
					}
					right(t, got)
					if !slices.Equal(got.Spaces[2].Areas, l) || !slices.Equal(got.Spaces[0].Areas, k.Spaces[0].Areas) || got.Spaces[1].Live {
						t.Fatalf("%s of %d, %d pages, %d: areas %v, must be %v", c.name, page, pages, prot, got.Spaces[2].Areas, l)
					}
				}
			}
		}
	}
}

// E6: as many pages as there are slots, of all spaces together.
func TestRoom(t *testing.T) {
	k := fork(t, begin(t, 3, 20), 0)
	for _, space := range []int{0, 1} {
		n, err := kernel.Map(k, space, 30, 6, 0)
		if err != api.OK {
			t.Fatalf("just as many pages: %d", err)
		}
		right(t, n)
		for _, c := range []struct{ page, pages, prot int }{{40, 1, 0}, {40, 216, 0}, {36, 1, 0}} {
			if got, err := kernel.Map(n, 1-space, c.page, c.pages, c.prot); err != api.ErrRoom || !equal(got, api.Kernel{}) {
				t.Errorf("%d pages too many: %d", c.pages, err)
			}
		}
		for _, c := range []struct {
			page, pages, prot int
			want              api.Errno
		}{{1, 1, 0, api.ErrThere}, {256, 1, 0, api.ErrRange}, {40, 1, 4, api.ErrRange}, {40, 0, 0, api.ErrRange}} {
			if got, err := kernel.Map(n, 1-space, c.page, c.pages, c.prot); err != c.want || !equal(got, api.Kernel{}) {
				t.Errorf("no room, and something else: %d, must be %d", err, c.want)
			}
		}
		if _, _, err := kernel.Fork(n, space); err != api.ErrRoom {
			t.Errorf("Fork without room: %d", err)
		}
		if m, err := kernel.Protect(n, 1-space, 1, 6, 3); err != api.OK || kernel.Check(m) != api.OK {
			t.Errorf("Protect needs no room: %d", err)
		}
		m, err := kernel.Unmap(n, space, 1, 1)
		if err != api.OK {
			t.Errorf("Unmap needs no room: %d", err)
		}
		if m, err = kernel.Map(m, 1-space, 40, 1, 0); err != api.OK || kernel.Check(m) != api.OK {
			t.Errorf("a page that another space gave up: %d", err)
		}
	}
}

// E6: of Unmap the entries of these pages go, and what none names any more is zero; others who share it keep it.
func TestUnmap(t *testing.T) {
	got, err := kernel.Unmap(sample(), 0, 3, 3)
	want := sample()
	want.Spaces[0].Areas = []api.Area{{Page: 1, Pages: 2, Prot: 2}, {Page: 6, Pages: 1}, {Page: 8, Pages: 1, Prot: 3}, {Page: 20, Pages: 2, Prot: 1, Zero: true}}
	want.Spaces[0].Entries = []api.Entry{{Page: 20, Kind: api.Present, At: 2}}
	want.Frames[0].Refs, want.Frames[1], want.Slots[0].Refs = 1, api.Frame{}, 1
	if err != api.OK {
		t.Fatal(err)
	}
	is(t, got, want)
	got, err = kernel.Unmap(got, 2, 4, 252)
	want.Spaces[2].Areas = []api.Area{{Page: 1, Pages: 2, Prot: 2}, {Page: 3, Pages: 1, Prot: 1}}
	want.Spaces[2].Entries = want.Spaces[2].Entries[:1]
	want.Frames[0], want.Slots[0], want.Slots[2] = api.Frame{}, api.Slot{}, api.Slot{}
	want.Frames[2].Refs = 1
	if err != api.OK {
		t.Fatal(err)
	}
	is(t, got, want)
}

// E6: pages that are not there, or not mapped, may be unmapped too; Map and Protect keep all entries.
func TestEntriesThatStay(t *testing.T) {
	for _, page := range []int{7, 9, 255} {
		got, err := kernel.Unmap(sample(), 0, page, 1)
		if err != api.OK {
			t.Fatal(err)
		}
		is(t, got, sample())
	}
	got, err := kernel.Protect(sample(), 0, 3, 4, 0)
	want := sample()
	want.Spaces[0].Areas = []api.Area{{Page: 1, Pages: 2, Prot: 2}, {Page: 3, Pages: 4}, {Page: 8, Pages: 1, Prot: 3}, {Page: 20, Pages: 2, Prot: 1, Zero: true}}
	if err != api.OK {
		t.Fatal(err)
	}
	is(t, got, want)
	roomy := sample()
	roomy.Slots = append(roomy.Slots, api.Slot{})
	got, err = kernel.Map(roomy, 2, 22, 1, api.Write)
	want = sample()
	want.Slots = append(want.Slots, api.Slot{})
	want.Spaces[2].Areas[4].Pages = 3
	if err != api.OK {
		t.Fatal(err)
	}
	is(t, got, want)
}

// E6: rights that were taken are asked for from then on, wherever the page is; of one space alone.
func TestProtectedPages(t *testing.T) {
	k := fork(t, store(t, begin(t, 3, 14), 0, 48, "x"), 0)
	k, err := kernel.Protect(k, 0, 3, 1, 0)
	if err != api.OK {
		t.Fatal(err)
	}
	if _, f, err := kernel.Store(k, 0, 48, "y"); f != (api.Fault{Kind: api.FaultRight, Addr: 48}) || err != api.OK {
		t.Errorf("Store without the right: %v %d", f, err)
	}
	if _, s := load(t, k, 0, 48, 1); s != "x" {
		t.Errorf("loaded is %q", s)
	}
	k = store(t, k, 1, 48, "y")
	peek(t, k, 0, 3, "x"+filled(3)[1:])
	peek(t, k, 1, 3, "y"+filled(3)[1:])
}

// E6: one more space, with the same areas and entries, behind all.
func TestFork(t *testing.T) {
	k := sample()
	k.Slots = append(k.Slots, make([]api.Slot, 9)...)
	for _, space := range []int{0, 2} {
		got, n, err := kernel.Fork(k, space)
		want := sample()
		want.Slots = append(want.Slots, make([]api.Slot, 9)...)
		want.Spaces = append(want.Spaces, sample().Spaces[space])
		want.Frames[0].Refs, want.Frames[2].Refs, want.Slots[0].Refs = 3, 3, 3
		if space == 0 {
			want.Frames[1].Refs = 2
		} else {
			want.Frames[4].Refs, want.Slots[2].Refs = 2, 2
		}
		if n != 3 || err != api.OK {
			t.Fatalf("Fork: %d %d", n, err)
		}
		is(t, got, want)
		if again, n, err := kernel.Fork(got, space); err != api.ErrMany || n != 0 || !equal(again, api.Kernel{}) {
			t.Errorf("a fifth space: %d %d", n, err)
		}
	}
}

// E6, P1: ErrMany is ahead of ErrRoom; a space that is not Live counts, and room is what all spaces have.
func TestErrorsOfFork(t *testing.T) {
	k := sample()
	for _, space := range []int{0, 2} {
		if got, n, err := kernel.Fork(k, space); err != api.ErrRoom || n != 0 || !equal(got, api.Kernel{}) {
			t.Errorf("Fork without room: %d %d", n, err)
		}
	}
	k.Slots = append(k.Slots, make([]api.Slot, 8)...)
	if _, _, err := kernel.Fork(k, 0); err != api.ErrRoom {
		t.Errorf("Fork with a slot too few: %d", err)
	}
	k.Spaces = append(k.Spaces, api.Space{})
	for _, space := range []int{0, 2} {
		if got, n, err := kernel.Fork(k, space); err != api.ErrMany || n != 0 || !equal(got, api.Kernel{}) {
			t.Errorf("a fifth space, without room: %d %d", n, err)
		}
	}
}

// E6: the space is Live no more, and what none names any more is zero; its number stays its own.
func TestDrop(t *testing.T) {
	got, err := kernel.Drop(sample(), 0)
	want := sample()
	want.Spaces[0] = api.Space{}
	want.Frames[0].Refs, want.Frames[1], want.Frames[2].Refs, want.Slots[0].Refs = 1, api.Frame{}, 1, 1
	if err != api.OK {
		t.Fatal(err)
	}
	is(t, got, want)
	if _, err := kernel.Drop(got, 0); err != api.ErrNone {
		t.Errorf("Drop once more: %d", err)
	}
	got, err = kernel.Drop(got, 2)
	want.Spaces[2] = api.Space{}
	want.Frames, want.Slots = make([]api.Frame, 5), make([]api.Slot, 18)
	if err != api.OK {
		t.Fatal(err)
	}
	is(t, got, want)
	for space := range 3 {
		if _, _, err := kernel.Fork(got, space); err != api.ErrNone {
			t.Errorf("Fork of a space that was dropped: %d", err)
		}
	}
}

// E6, and the document's seventh example: what one space stores behind a fork is not there in the other one, whichever it is.
func TestForkedSpacesDoNotSeeEachOther(t *testing.T) {
	for _, frames := range []int{3, 4, 64} {
		k := store(t, begin(t, frames, 28), 0, 60, "both")
		k = fork(t, fork(t, k, 0), 1)
		k = store(t, k, 1, 62, "child")
		k = store(t, k, 0, 56, "parent")
		k = store(t, k, 2, 80, "z")
		for space, want := range []string{"ccccccccparentth", "ccccccccccccboch", "ccccccccccccboth"} {
			peek(t, k, space, 3, want)
		}
		peek(t, k, 0, 4, filled(4))
		peek(t, k, 1, 4, "ild"+filled(4)[3:])
		peek(t, k, 2, 4, filled(4))
		peek(t, k, 2, 5, "z"+filled(5)[1:])
		k, err := kernel.Drop(k, 1)
		if err != api.OK {
			t.Fatal(err)
		}
		peek(t, k, 0, 3, "ccccccccparentth")
		peek(t, k, 2, 3, "ccccccccccccboth")
	}
}
