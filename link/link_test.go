package link_test

import (
	"math"
	"slices"
	"strings"
	"testing"

	"foliant/api"
	"foliant/link"
)

var (
	edges = []int{math.MinInt, math.MinInt + 1, -4096, -16, -8, -1, math.MaxInt - 7, math.MaxInt - 1, math.MaxInt}
	zeros = strings.Repeat("\x00", api.PageSize)
)

// letters: a page of one letter.
func letters(c string) string { return strings.Repeat(c, api.PageSize) }

// code: an image of so many pages, all to be run.
func code(name string, pages int, needs ...string) api.Image {
	return api.Image{Name: name, Needs: needs, Segs: []api.Seg{{Pages: pages, Data: name, Exec: true}}}
}

func sameLinked(a, b api.Linked) bool {
	return slices.Equal(a.Areas, b.Areas) && a.Entry == b.Entry && slices.EqualFunc(a.Sheets, b.Sheets, sameSheet)
}

func sameSheet(a, b api.Sheet) bool {
	return a.Page == b.Page && a.Data == b.Data && slices.Equal(a.Fixes, b.Fixes)
}

func must(t *testing.T, main api.Image, libs ...api.Image) api.Linked {
	t.Helper()
	l, err := link.Link(main, libs)
	if err != api.OK {
		t.Fatalf("Link: %d", err)
	}
	if err := link.Check(l); err != api.OK {
		t.Fatalf("what Link answers is not right: %d", err)
	}
	return l
}

// D2, and the document's fourth example
func TestLinkedAlone(t *testing.T) {
	data := "\x01\x02\x00\x00\x05\x00\x00\x00\x10\x00\x00\x00\x06\x00\x00\x00"
	got := must(t, api.Image{Name: "main", Segs: []api.Seg{{Pages: 1, Data: data, Exec: true}}})
	want := api.Linked{Areas: []api.Area{{Page: 1, Pages: 1, Prot: api.Exec}}, Sheets: []api.Sheet{{Page: 1, Data: data}}, Entry: 16}
	if !sameLinked(got, want) {
		t.Errorf("it is %v, must be %v", got, want)
	}
}

// D2: where the pages lie, with gaps ahead of a segment and between two; what is in them; rights; Entry.
func TestPagesAndEntry(t *testing.T) {
	main := api.Image{Name: "main", Needs: []string{"a"}, Entry: 72, Segs: []api.Seg{
		{Page: 2, Pages: 1, Data: "x"},
		{Page: 4, Pages: 2, Data: letters("y") + "z", Exec: true},
		{Page: 6, Pages: 1, Write: true},
	}}
	a := api.Image{Name: "a", Entry: 16, Segs: []api.Seg{{Page: 1, Pages: 3, Data: letters("p") + letters("q"), Write: true, Exec: true}}}
	want := api.Linked{
		Areas: []api.Area{{Page: 3, Pages: 1}, {Page: 5, Pages: 2, Prot: 2}, {Page: 7, Pages: 1, Prot: 1}, {Page: 9, Pages: 3, Prot: 3}},
		Sheets: []api.Sheet{
			{Page: 3, Data: "x" + zeros[1:]}, {Page: 5, Data: letters("y")}, {Page: 6, Data: "z" + zeros[1:]}, {Page: 7, Data: zeros},
			{Page: 9, Data: letters("p")}, {Page: 10, Data: letters("q")}, {Page: 11, Data: zeros},
		},
		Entry: 88,
	}
	if got := must(t, main, a); !sameLinked(got, want) {
		t.Errorf("it is %v, must be %v", got, want)
	}
}

// D2: neighbours that have the same rights are one area, those of two objects too.
func TestAreasAreJoined(t *testing.T) {
	main := api.Image{Name: "main", Needs: []string{"a"}, Segs: []api.Seg{{Pages: 1, Exec: true}, {Page: 1, Pages: 2, Exec: true}, {Page: 4, Pages: 1, Exec: true}}}
	a := api.Image{Name: "a", Segs: []api.Seg{{Pages: 2, Exec: true}, {Page: 2, Pages: 1, Exec: true, Write: true}, {Page: 3, Pages: 1}}}
	got := must(t, main, a)
	want := []api.Area{{Page: 1, Pages: 3, Prot: 2}, {Page: 5, Pages: 3, Prot: 2}, {Page: 8, Pages: 1, Prot: 3}, {Page: 9, Pages: 1}}
	if !slices.Equal(got.Areas, want) {
		t.Errorf("areas %v, must be %v", got.Areas, want)
	}
}

// order: the names of the objects, by what their first pages hold.
func order(l api.Linked) string {
	var names []string
	for _, s := range l.Sheets {
		if s.Data != zeros {
			names = append(names, strings.TrimRight(s.Data, "\x00"))
		}
	}
	return strings.Join(names, " ")
}

// D2: in which order objects come: all needs of one ahead of what these need; what is not needed does not come.
func TestObjects(t *testing.T) {
	for _, c := range []struct {
		main api.Image
		libs []api.Image
		want string
	}{
		{code("main", 1), nil, "main"},
		{code("main", 1), []api.Image{code("a", 1), code("b", 1)}, "main"},
		{code("main", 1, "main"), nil, "main"},
		{code("main", 1, "main"), []api.Image{code("a", 1)}, "main"},
		{code("main", 1, "b", "a"), []api.Image{code("a", 1), code("b", 1)}, "main b a"},
		{code("main", 1, "a"), []api.Image{code("b", 1, "a"), code("a", 1, "b")}, "main a b"},
		{code("main", 1, "a"), []api.Image{code("a", 1, "b", "main", "a"), code("b", 1, "main", "a", "b")}, "main a b"},
		{code("main", 2, "a", "b"), []api.Image{code("c", 2), code("b", 3, "d"), code("d", 1), code("a", 2, "c", "b")}, "main a b c d"},
		{code("main", 1, "a"), []api.Image{code("a", 1, "b"), code("b", 1, "c"), code("c", 1, "d"), code("d", 1, "e"), code("e", 1, "f"), code("f", 1, "a")}, "main a b c d e f"},
		{code("main", 1, "a"), []api.Image{code("a", 1), code("b", 1, "nobody")}, "main a"},
		{code("a", 1, "main"), []api.Image{code("main", 1, "a")}, "a main"},
	} {
		if got := order(must(t, c.main, c.libs...)); got != c.want {
			t.Errorf("objects %q, must be %q", got, c.want)
		}
	}
}

// fixed: main of three pages to write, behind one to run, with these relocations.
func fixed(rels ...api.Rel) api.Image {
	return api.Image{Name: "main", Needs: []string{"a", "b"}, Rels: rels,
		Segs: []api.Seg{{Pages: 1, Exec: true}, {Page: 1, Pages: 3, Data: letters("m") + letters("n") + "o", Write: true}},
		Syms: []api.Sym{{Name: "here", At: 20}, {Name: "both", At: 63}}}
}

func fixedLibs() []api.Image {
	segs := []api.Seg{{Pages: 2, Exec: true}}
	return []api.Image{
		{Name: "b", Segs: segs, Syms: []api.Sym{{Name: "b_s", At: 31}, {Name: "twice", At: 2}}, Rels: []api.Rel{{At: 24, Name: "both"}}},
		{Name: "a", Segs: segs, Syms: []api.Sym{{Name: "twice", At: 1}, {Name: "both", At: 7}}, Rels: []api.Rel{{At: 4, Add: 2}, {At: 12, Name: "twice", Add: -1}}},
	}
}

// D2: main lies at page 1, a at page 5, b at page 7.
func TestAddressesOfRelocations(t *testing.T) {
	for _, c := range []struct {
		rel  api.Rel
		want string
	}{
		{api.Rel{At: 16}, "\x10\x00\x00\x00\x00\x00\x00\x00"},
		{api.Rel{At: 16, Add: 5}, "\x15\x00\x00\x00\x00\x00\x00\x00"},
		{api.Rel{At: 16, Add: -17}, "\xff\xff\xff\xff\xff\xff\xff\xff"},
		{api.Rel{At: 16, Name: "here"}, "\x24\x00\x00\x00\x00\x00\x00\x00"},
		{api.Rel{At: 16, Name: "b_s"}, "\x8f\x00\x00\x00\x00\x00\x00\x00"},
		{api.Rel{At: 16, Name: "b_s", Add: 0x1234560000}, "\x8f\x00\x56\x34\x12\x00\x00\x00"},
		{api.Rel{At: 16, Name: "twice"}, "\x51\x00\x00\x00\x00\x00\x00\x00"},
		{api.Rel{At: 16, Name: "both", Add: 1}, "\x50\x00\x00\x00\x00\x00\x00\x00"},
		{api.Rel{At: 16, Add: math.MaxInt}, "\x0f\x00\x00\x00\x00\x00\x00\x80"},
		{api.Rel{At: 16, Add: math.MinInt}, "\x10\x00\x00\x00\x00\x00\x00\x80"},
		{api.Rel{At: 16, Name: "here", Add: -1}, "\x23\x00\x00\x00\x00\x00\x00\x00"},
	} {
		l := must(t, fixed(c.rel), fixedLibs()...)
		if got := l.Sheets[1]; !sameSheet(got, api.Sheet{Page: 2, Data: letters("m"), Fixes: []api.Fix{{Bytes: c.want}}}) {
			t.Errorf("%v: %+v", c.rel, got)
		}
	}
}

// D2: a library's relocations are its own, and cut where its pages end; a symbol that two have is the first object's.
func TestRelocationsOfLibraries(t *testing.T) {
	l := must(t, fixed(), fixedLibs()...)
	want := []api.Sheet{
		{Page: 5, Data: zeros, Fixes: []api.Fix{{Off: 4, Bytes: "\x52\x00\x00\x00\x00\x00\x00\x00"}, {Off: 12, Bytes: "\x50\x00\x00\x00"}}},
		{Page: 6, Data: zeros, Fixes: []api.Fix{{Bytes: "\x00\x00\x00\x00"}}},
		{Page: 7, Data: zeros},
		{Page: 8, Data: zeros, Fixes: []api.Fix{{Off: 8, Bytes: "\x4f\x00\x00\x00\x00\x00\x00\x00"}}},
	}
	if !slices.EqualFunc(l.Sheets[4:], want, sameSheet) {
		t.Errorf("sheets %+v, must be %+v", l.Sheets[4:], want)
	}
}

// D2, and the document's fifth example: the place of every relocation that reaches over a page's end; the first page's right to write is none.
func TestRelocationsOverAPagesEnd(t *testing.T) {
	const whole = "\x18\x17\x16\x15\x14\x13\x12\x11"
	for at := range 2 * api.PageSize {
		rel := api.Rel{At: at, Add: 0x1112131415161718 - 16}
		var want [3][]api.Fix
		for n, c := range []byte(whole) {
			page, off := (at+n)/api.PageSize, (at+n)%api.PageSize
			if n == 0 || off == 0 {
				want[page] = []api.Fix{{Off: off}}
			}
			want[page][0].Bytes += string([]byte{c})
		}
		l := must(t, fixed(rel), fixedLibs()...)
		for page, w := range want {
			if got := l.Sheets[page].Fixes; !slices.Equal(got, w) {
				t.Errorf("at %d, page %d: %+v, must be %+v", at, page, got, w)
			}
		}
	}
	l := must(t, fixed(api.Rel{At: 12}), fixedLibs()...)
	if len(l.Sheets[0].Fixes[0].Bytes) != 4 || len(l.Sheets[1].Fixes[0].Bytes) != 4 {
		t.Errorf("at 12: %+v", l.Sheets[:2])
	}
}

// D2: as many relocations as there may be, each right behind the one ahead of it.
func TestManyRelocations(t *testing.T) {
	main := api.Image{Name: "main", Segs: []api.Seg{{Pages: 10, Exec: true}}}
	want := ""
	for n := range api.MaxRels {
		main.Rels = append(main.Rels, api.Rel{At: 5 + 8*n, Add: n})
		want += string([]byte{byte(16 + n), 0, 0, 0, 0, 0, 0, 0})
	}
	inner := []int{0, 5, 13}
	places := [][]int{{5, 13}, inner, inner, inner, inner, inner, inner, inner, {0}, nil}
	got := ""
	for n, s := range must(t, main).Sheets {
		var offs []int
		for _, f := range s.Fixes {
			offs = append(offs, f.Off)
			got += f.Bytes
		}
		if !slices.Equal(offs, places[n]) {
			t.Errorf("page %d: fixes at %d, must be at %d", s.Page, offs, places[n])
		}
	}
	if got != want {
		t.Errorf("fixes %x, must be %x", got, want)
	}
}
