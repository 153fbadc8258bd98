package area_test

import (
	"math"
	"slices"
	"testing"

	"foliant/api"
	"foliant/area"
)

type areas = []api.Area

// alternating has n areas of one page, right behind one another.
func alternating(n int) areas {
	var l areas
	for k := range n {
		l = append(l, api.Area{Page: 1 + k, Pages: 1, Prot: k % 2})
	}
	return l
}

var checks = []struct {
	name string
	l    areas
	want api.Errno
}{
	{"none", nil, api.OK},
	{"none, not nil", areas{}, api.OK},
	{"the first page", areas{{Page: 1, Pages: 1}}, api.OK},
	{"the last page", areas{{Page: 255, Pages: 1, Prot: 3, Zero: true}}, api.OK},
	{"all pages", areas{{Page: 1, Pages: 255, Prot: 2}}, api.OK},
	{"as many as may be", alternating(255), api.OK},
	{"a gap of one page", areas{{Page: 1, Pages: 1}, {Page: 3, Pages: 1}}, api.OK},
	{"right behind, another Prot", areas{{Page: 3, Pages: 2, Prot: 1}, {Page: 5, Pages: 1, Prot: 2}}, api.OK},
	{"right behind, another Zero", areas{{Page: 3, Pages: 2, Prot: 1}, {Page: 5, Pages: 1, Prot: 1, Zero: true}}, api.OK},
	{"right behind, both other", areas{{Page: 3, Pages: 2, Prot: 1, Zero: true}, {Page: 5, Pages: 1}}, api.OK},
	{"right behind, alike", areas{{Page: 3, Pages: 2, Prot: 1}, {Page: 5, Pages: 1, Prot: 1}}, api.ErrForm},
	{"right behind, alike and Zero", areas{{Page: 3, Pages: 2, Zero: true}, {Page: 5, Pages: 1, Zero: true}}, api.ErrForm},
	{"the third right behind, alike", areas{{Page: 1, Pages: 1}, {Page: 2, Pages: 1, Prot: 1}, {Page: 3, Pages: 1, Prot: 1}}, api.ErrForm},
	{"one more than may be", alternating(256), api.ErrMany},
	{"too many, and none of them right", make(areas, 256), api.ErrMany},
	{"very many", make(areas, 100000), api.ErrMany},
	{"as many as may be, and none of them right", make(areas, 255), api.ErrForm},
	{"page 0", areas{{Page: 0, Pages: 1}}, api.ErrForm},
	{"a page below 0", areas{{Page: -1, Pages: 5}}, api.ErrForm},
	{"the least page", areas{{Page: math.MinInt, Pages: 1}}, api.ErrForm},
	{"the least page, and very many", areas{{Page: math.MinInt, Pages: math.MaxInt}}, api.ErrForm},
	{"page 256", areas{{Page: 256, Pages: 1}}, api.ErrForm},
	{"the greatest page", areas{{Page: math.MaxInt, Pages: 1}}, api.ErrForm},
	{"the greatest page, and very many", areas{{Page: math.MaxInt, Pages: math.MaxInt}}, api.ErrForm},
	{"the greatest page, and so many that it goes round", areas{{Page: math.MaxInt, Pages: 2}}, api.ErrForm},
	{"no pages", areas{{Page: 1, Pages: 0}}, api.ErrForm},
	{"fewer than no pages", areas{{Page: 9, Pages: -1}}, api.ErrForm},
	{"the least number of pages", areas{{Page: 9, Pages: math.MinInt}}, api.ErrForm},
	{"one page too many", areas{{Page: 255, Pages: 2}}, api.ErrForm},
	{"one page too many, from the first on", areas{{Page: 1, Pages: 256}}, api.ErrForm},
	{"the greatest number of pages", areas{{Page: 1, Pages: math.MaxInt}}, api.ErrForm},
	{"Prot 4", areas{{Page: 1, Pages: 1, Prot: 4}}, api.ErrForm},
	{"Prot -1", areas{{Page: 1, Pages: 1, Prot: -1}}, api.ErrForm},
	{"the greatest Prot", areas{{Page: 1, Pages: 1, Prot: math.MaxInt}}, api.ErrForm},
	{"the least Prot", areas{{Page: 1, Pages: 1, Prot: math.MinInt}}, api.ErrForm},
	{"one page in two", areas{{Page: 2, Pages: 2}, {Page: 3, Pages: 1, Prot: 1}}, api.ErrForm},
	{"the same twice", areas{{Page: 2, Pages: 2}, {Page: 2, Pages: 2, Prot: 1}}, api.ErrForm},
	{"falling", areas{{Page: 7, Pages: 1}, {Page: 3, Pages: 1}}, api.ErrForm},
	{"falling, right ahead", areas{{Page: 4, Pages: 1}, {Page: 3, Pages: 1, Prot: 1}}, api.ErrForm},
	{"the second is not right", areas{{Page: 1, Pages: 1}, {Page: 3, Pages: 0}}, api.ErrForm},
	{"the third is ahead of the second", areas{{Page: 1, Pages: 1}, {Page: 9, Pages: 1}, {Page: 5, Pages: 1}}, api.ErrForm},
}

// C1
func TestCheck(t *testing.T) {
	for _, c := range checks {
		if err := area.Check(c.l); err != c.want {
			t.Errorf("%s: %d, must be %d", c.name, err, c.want)
		}
	}
}

// C1, P1
func TestFindAndTotalOfAreasThatAreNotRight(t *testing.T) {
	for _, c := range checks {
		if c.want == api.OK {
			continue
		}
		for _, page := range []int{0, 1, 2, 3, 5, 9, 255, 256, -1, math.MaxInt, math.MinInt} {
			if a, ok := area.Find(c.l, page); ok || a != (api.Area{}) {
				t.Errorf("%s: Find of %d: %v %v", c.name, page, a, ok)
			}
		}
		if n := area.Total(c.l); n != 0 {
			t.Errorf("%s: Total %d", c.name, n)
		}
	}
}

// C1
func TestFind(t *testing.T) {
	low, mid, next, high := api.Area{Page: 1, Pages: 1, Prot: 2}, api.Area{Page: 4, Pages: 3, Prot: 1}, api.Area{Page: 7, Pages: 2, Prot: 1, Zero: true}, api.Area{Page: 250, Pages: 6, Prot: 3}
	l := areas{low, mid, next, high}
	for page, want := range map[int]api.Area{1: low, 4: mid, 5: mid, 6: mid, 7: next, 8: next, 250: high, 253: high, 255: high} {
		if a, ok := area.Find(l, page); !ok || a != want {
			t.Errorf("Find of %d: %v %v, must be %v", page, a, ok, want)
		}
	}
	for _, page := range []int{0, -1, 2, 3, 9, 249, 256, 257, -250, math.MaxInt, math.MinInt, math.MinInt + 1} {
		if a, ok := area.Find(l, page); ok || a != (api.Area{}) {
			t.Errorf("Find of %d: %v %v", page, a, ok)
		}
	}
	if _, ok := area.Find(nil, 1); ok {
		t.Error("Find in no areas")
	}
}

// C1
func TestTotal(t *testing.T) {
	for _, c := range []struct {
		l    areas
		want int
	}{
		{nil, 0}, {areas{}, 0}, {areas{{Page: 255, Pages: 1}}, 1}, {areas{{Page: 1, Pages: 255}}, 255}, {alternating(255), 255},
		{areas{{Page: 3, Pages: 4}, {Page: 7, Pages: 2, Prot: 1}, {Page: 100, Pages: 50}}, 56},
	} {
		if n := area.Total(c.l); n != c.want {
			t.Errorf("Total of %v: %d, must be %d", c.l, n, c.want)
		}
	}
}

// call is one of Map, Unmap and Protect, with one form for all.
type call struct {
	name string
	do   func(l areas, page, pages, prot int) (areas, api.Errno)
}

var calls = []call{
	{"Map", area.Map},
	{"Unmap", func(l areas, page, pages, _ int) (areas, api.Errno) { return area.Unmap(l, page, pages) }},
	{"Protect", area.Protect},
}

// C2, P1
func TestAreasThatAreNotRightAreToldFirst(t *testing.T) {
	for _, c := range checks {
		if c.want == api.OK {
			continue
		}
		for _, do := range calls {
			for _, page := range []int{0, 1, 9, 255, 256} {
				if l, err := do.do(c.l, page, 1, 4); len(l) != 0 || err != c.want {
					t.Errorf("%s, %s at %d: %v %d, must be %d", do.name, c.name, page, l, err, c.want)
				}
				if l, err := do.do(c.l, page, 1, 0); len(l) != 0 || err != c.want {
					t.Errorf("%s, %s at %d: %v %d, must be %d", do.name, c.name, page, l, err, c.want)
				}
			}
		}
	}
}

// C2, P1: ErrRange is ahead of ErrThere and ErrNone, so all and none of the pages are mapped here.
func TestPagesOutOfRange(t *testing.T) {
	for _, c := range [][2]int{
		{0, 1}, {-1, 1}, {-1, 3}, {math.MinInt, 1}, {math.MinInt, math.MaxInt}, {256, 1}, {257, 1}, {math.MaxInt, 1}, {math.MaxInt, math.MaxInt}, {math.MaxInt, 2},
		{1, 0}, {5, 0}, {256, 0}, {5, -1}, {256, -1}, {1, math.MinInt}, {255, math.MinInt}, {255, 2}, {254, 3}, {1, 256}, {2, 255}, {1, math.MaxInt}, {255, math.MaxInt}, {200, math.MaxInt - 199}, {math.MinInt, math.MinInt}, {0, 0},
	} {
		for _, l := range []areas{nil, {{Page: 1, Pages: 255}}, {{Page: 5, Pages: 1, Zero: true}}} {
			for _, do := range calls {
				if got, err := do.do(l, c[0], c[1], 1); len(got) != 0 || err != api.ErrRange {
					t.Errorf("%s of %d, %d pages: %v %d", do.name, c[0], c[1], got, err)
				}
			}
		}
	}
}

// C2, P1
func TestProtOutOfRange(t *testing.T) {
	full := areas{{Page: 1, Pages: 255}}
	for _, prot := range []int{-1, 4, 5, 256, math.MaxInt, math.MinInt, math.MinInt + 3} {
		for _, l := range []areas{nil, full} {
			if got, err := area.Map(l, 3, 2, prot); len(got) != 0 || err != api.ErrRange {
				t.Errorf("Map with Prot %d: %v %d", prot, got, err)
			}
			if got, err := area.Protect(l, 3, 2, prot); len(got) != 0 || err != api.ErrRange {
				t.Errorf("Protect with Prot %d: %v %d", prot, got, err)
			}
		}
	}
	for prot := range 4 {
		if got, err := area.Map(nil, 3, 2, prot); err != api.OK || !slices.Equal(got, areas{{Page: 3, Pages: 2, Prot: prot, Zero: true}}) {
			t.Errorf("Map with Prot %d: %v %d", prot, got, err)
		}
		if got, err := area.Protect(full, 1, 255, prot); err != api.OK || !slices.Equal(got, areas{{Page: 1, Pages: 255, Prot: prot}}) {
			t.Errorf("Protect with Prot %d: %v %d", prot, got, err)
		}
	}
}

// C2
func TestMapUnmapProtect(t *testing.T) {
	sheets := areas{{Page: 4, Pages: 3, Prot: 2}}
	zeros := areas{{Page: 4, Pages: 3, Prot: 2, Zero: true}}
	mixed := areas{{Page: 4, Pages: 2, Prot: 1}, {Page: 6, Pages: 2, Prot: 1, Zero: true}, {Page: 8, Pages: 1, Prot: 3, Zero: true}}
	for _, c := range []struct {
		name string
		do   call
		l    areas
		in   [3]int
		want areas
		err  api.Errno
	}{
		{"alone", calls[0], nil, [3]int{3, 4, 1}, areas{{Page: 3, Pages: 4, Prot: 1, Zero: true}}, api.OK},
		{"the last page", calls[0], nil, [3]int{255, 1, 3}, areas{{Page: 255, Pages: 1, Prot: 3, Zero: true}}, api.OK},
		{"all pages", calls[0], nil, [3]int{1, 255, 0}, areas{{Page: 1, Pages: 255, Zero: true}}, api.OK},
		{"right behind zeros, alike", calls[0], zeros, [3]int{7, 1, 2}, areas{{Page: 4, Pages: 4, Prot: 2, Zero: true}}, api.OK},
		{"right ahead of zeros, alike", calls[0], zeros, [3]int{2, 2, 2}, areas{{Page: 2, Pages: 5, Prot: 2, Zero: true}}, api.OK},
		{"right behind zeros, another Prot", calls[0], zeros, [3]int{7, 1, 3}, areas{zeros[0], {Page: 7, Pages: 1, Prot: 3, Zero: true}}, api.OK},
		{"right behind sheets", calls[0], sheets, [3]int{7, 1, 2}, areas{sheets[0], {Page: 7, Pages: 1, Prot: 2, Zero: true}}, api.OK},
		{"right ahead of sheets", calls[0], sheets, [3]int{3, 1, 2}, areas{{Page: 3, Pages: 1, Prot: 2, Zero: true}, sheets[0]}, api.OK},
		{"between two, alike", calls[0], areas{{Page: 1, Pages: 1, Zero: true}, {Page: 3, Pages: 1, Zero: true}}, [3]int{2, 1, 0}, areas{{Page: 1, Pages: 3, Zero: true}}, api.OK},
		{"the first one is mapped", calls[0], sheets, [3]int{6, 3, 2}, nil, api.ErrThere},
		{"the last one is mapped", calls[0], sheets, [3]int{2, 3, 2}, nil, api.ErrThere},
		{"around", calls[0], sheets, [3]int{1, 255, 2}, nil, api.ErrThere},
		{"within", calls[0], sheets, [3]int{5, 1, 2}, nil, api.ErrThere},

		{"nothing mapped at all", calls[1], nil, [3]int{1, 255, 0}, nil, api.OK},
		{"nothing mapped there", calls[1], sheets, [3]int{7, 9, 0}, sheets, api.OK},
		{"all", calls[1], mixed, [3]int{1, 255, 0}, nil, api.OK},
		{"just these", calls[1], sheets, [3]int{4, 3, 0}, nil, api.OK},
		{"the first one", calls[1], sheets, [3]int{4, 1, 0}, areas{{Page: 5, Pages: 2, Prot: 2}}, api.OK},
		{"the last one", calls[1], sheets, [3]int{6, 1, 0}, areas{{Page: 4, Pages: 2, Prot: 2}}, api.OK},
		{"the middle one", calls[1], sheets, [3]int{5, 1, 0}, areas{{Page: 4, Pages: 1, Prot: 2}, {Page: 6, Pages: 1, Prot: 2}}, api.OK},
		{"over several", calls[1], mixed, [3]int{5, 2, 0}, areas{{Page: 4, Pages: 1, Prot: 1}, {Page: 7, Pages: 1, Prot: 1, Zero: true}, mixed[2]}, api.OK},

		{"the middle one, the document's third example", calls[2], areas{{Page: 3, Pages: 4, Prot: 1, Zero: true}}, [3]int{4, 1, 0}, areas{{Page: 3, Pages: 1, Prot: 1, Zero: true}, {Page: 4, Pages: 1, Zero: true}, {Page: 5, Pages: 2, Prot: 1, Zero: true}}, api.OK},
		{"as it was", calls[2], sheets, [3]int{5, 1, 2}, sheets, api.OK},
		{"sheets stay sheets, zeros zeros", calls[2], mixed, [3]int{4, 5, 0}, areas{{Page: 4, Pages: 2}, {Page: 6, Pages: 3, Zero: true}}, api.OK},
		{"so that neighbours are alike", calls[2], mixed, [3]int{8, 1, 1}, areas{mixed[0], {Page: 6, Pages: 3, Prot: 1, Zero: true}}, api.OK},
		{"the page ahead is not mapped", calls[2], sheets, [3]int{3, 2, 1}, nil, api.ErrNone},
		{"the page behind is not mapped", calls[2], sheets, [3]int{6, 2, 1}, nil, api.ErrNone},
		{"a gap", calls[2], areas{{Page: 1, Pages: 1}, {Page: 3, Pages: 1}}, [3]int{1, 3, 1}, nil, api.ErrNone},
		{"none is mapped", calls[2], nil, [3]int{1, 1, 1}, nil, api.ErrNone},
	} {
		got, err := c.do.do(c.l, c.in[0], c.in[1], c.in[2])
		if err != c.err || !slices.Equal(got, c.want) {
			t.Errorf("%s, %s: %v %d, must be %v %d", c.do.name, c.name, got, err, c.want, c.err)
		}
	}
}

// kind is what the model knows of a page that is mapped.
type kind struct {
	prot int
	zero bool
}

func model(l areas) map[int]kind {
	m := map[int]kind{}
	for _, a := range l {
		for n := range a.Pages {
			m[a.Page+n] = kind{a.Prot, a.Zero}
		}
	}
	return m
}

// expect does the call on the model; the pages must be in range.
func expect(m map[int]kind, name string, page, pages, prot int) api.Errno {
	mapped := 0
	for n := page; n < page+pages; n++ {
		if _, ok := m[n]; ok {
			mapped++
		}
	}
	switch {
	case name == "Map" && mapped > 0:
		return api.ErrThere
	case name == "Protect" && mapped < pages:
		return api.ErrNone
	}
	for n := page; n < page+pages; n++ {
		switch name {
		case "Map":
			m[n] = kind{prot, true}
		case "Unmap":
			delete(m, n)
		default:
			m[n] = kind{prot, m[n].zero}
		}
	}
	return api.OK
}

func sameAsModel(t *testing.T, l areas, m map[int]kind) {
	t.Helper()
	if err := area.Check(l); err != api.OK {
		t.Fatalf("%v is not right: %d", l, err)
	}
	if n := area.Total(l); n != len(m) {
		t.Fatalf("%v: Total %d, must be %d", l, n, len(m))
	}
	for page := -1; page <= api.MaxPage+1; page++ {
		a, ok := area.Find(l, page)
		k, want := m[page]
		if ok != want || ok && (a.Prot != k.prot || a.Zero != k.zero || page < a.Page || page >= a.Page+a.Pages) {
			t.Fatalf("%v: Find of %d: %v %v, must be %v %v", l, page, a, ok, k, want)
		}
	}
}

// draw is a script of numbers, the same each time.
type draw uint64

func (d *draw) n(n int) int {
	*d = *d*6364136223846793005 + 1442695040888963407
	return int(uint64(*d) >> 33 % uint64(n))
}

// C1, C2: long scripts against a model of single pages, begun with areas that have sheets; a script keeps near the first pages, or the last ones.
func TestScriptsAgainstModel(t *testing.T) {
	for seed := range 20 {
		r := draw(seed)
		l := areas{{Page: 2, Pages: 3, Prot: 2}, {Page: 5, Pages: 2, Prot: 1}, {Page: 248, Pages: 4, Prot: 3}}
		for range 300 {
			pages, prot := 1+r.n(5), r.n(4)
			page := 1 + r.n(10)
			if r.n(3) == 0 {
				page = 256 - pages - r.n(6)
			}
			do := calls[r.n(3)]
			m := model(l)
			want := expect(m, do.name, page, pages, prot)
			got, err := do.do(l, page, pages, prot)
			if err != want {
				t.Fatalf("%s of %d, %d pages, %d, in %v: %d, must be %d", do.name, page, pages, prot, l, err, want)
			}
			if err != api.OK {
				if len(got) != 0 {
					t.Fatalf("%v comes with error %d", got, err)
				}
				continue
			}
			sameAsModel(t, got, m)
			l = got
		}
	}
}

// roomy is the list with spare room behind it, and the whole room.
func roomy(l areas) (areas, areas) {
	room := append(slices.Clone(l), make(areas, 300)...)
	for k := range room[len(l):] {
		room[len(l)+k] = api.Area{Page: -7, Pages: -7, Prot: -7, Zero: true}
	}
	return room[:len(l)], room
}

// P2, P3: what is handed in stays as it is, its spare room too; the answer does not change with it, nor it with the answer.
func TestListsAreNotShared(t *testing.T) {
	begin := areas{{Page: 2, Pages: 3, Prot: 2}, {Page: 9, Pages: 2, Prot: 1, Zero: true}}
	for _, in := range []struct {
		do   call
		page int
		prot int
	}{{calls[0], 11, 1}, {calls[0], 5, 3}, {calls[0], 200, 0}, {calls[0], 9, 1}, {calls[1], 100, 0}, {calls[1], 3, 0}, {calls[1], 2, 0}, {calls[2], 3, 1}, {calls[2], 2, 2}, {calls[2], 100, 2}} {
		l, room := roomy(begin)
		before := slices.Clone(room)
		got, err := in.do.do(l, in.page, 1, in.prot)
		area.Check(l)
		area.Find(l, in.page)
		area.Total(l)
		if !slices.Equal(room, before) {
			t.Fatalf("%s of %d changed what was handed in", in.do.name, in.page)
		}
		again, errAgain := in.do.do(l, in.page, 1, in.prot)
		if err != errAgain || !slices.Equal(got, again) {
			t.Errorf("%s of %d: %v %d, and then %v %d", in.do.name, in.page, got, err, again, errAgain)
		}
		clear(got[:cap(got)])
		if !slices.Equal(room, before) {
			t.Errorf("%s of %d: the answer shares memory with what was handed in", in.do.name, in.page)
		}
		kept := slices.Clone(again)
		clear(room)
		if !slices.Equal(again, kept) {
			t.Errorf("%s of %d: the answer changes with what was handed in", in.do.name, in.page)
		}
	}
}
