package link_test

import (
	"slices"
	"strings"
	"testing"

	"foliant/api"
	"foliant/link"
)

var sheets = []struct {
	name  string
	sheet api.Sheet
	want  string
	err   api.Errno
}{
	{"nothing at all", api.Sheet{}, "", api.ErrForm},
	{"the first page", api.Sheet{Page: 1, Data: letters("a")}, letters("a"), api.OK},
	{"the last page", api.Sheet{Page: 255, Data: letters("\xff")}, letters("\xff"), api.OK},
	{"page 0", api.Sheet{Page: 0, Data: letters("a")}, "", api.ErrForm},
	{"page 256", api.Sheet{Page: 256, Data: letters("a")}, "", api.ErrForm},
	{"no bytes", api.Sheet{Page: 1}, "", api.ErrForm},
	{"a byte too few", api.Sheet{Page: 1, Data: letters("a")[1:]}, "", api.ErrForm},
	{"a byte too many", api.Sheet{Page: 1, Data: letters("a") + "a"}, "", api.ErrForm},
	{"two pages of bytes", api.Sheet{Page: 1, Data: letters("a") + letters("a")}, "", api.ErrForm},
	{"a fix of all", with(api.Fix{Bytes: letters("b")}), letters("b"), api.OK},
	{"a fix of the first byte", with(api.Fix{Bytes: "b"}), "b" + letters("a")[1:], api.OK},
	{"a fix of the last byte", with(api.Fix{Off: 15, Bytes: "b"}), letters("a")[1:] + "b", api.OK},
	{"fixes that touch", with(api.Fix{Off: 3, Bytes: "xyz"}, api.Fix{Off: 6, Bytes: "w"}), "aaaxyzwaaaaaaaaa", api.OK},
	{"fixes with a gap", with(api.Fix{Off: 1, Bytes: "xy"}, api.Fix{Off: 14, Bytes: "zz"}), "axyaaaaaaaaaaazz", api.OK},
	{"a fix a byte", with(many(16)...), "abcdefghijklmnop", api.OK},
	{"one fix more", with(append(many(16), api.Fix{Off: 16, Bytes: "q"})...), "", api.ErrForm},
	{"fixes that have a byte in both", with(api.Fix{Off: 3, Bytes: "xyz"}, api.Fix{Off: 5, Bytes: "w"}), "", api.ErrForm},
	{"the same twice", with(api.Fix{Off: 3, Bytes: "x"}, api.Fix{Off: 3, Bytes: "x"}), "", api.ErrForm},
	{"fixes that fall", with(api.Fix{Off: 6, Bytes: "x"}, api.Fix{Off: 3, Bytes: "y"}), "", api.ErrForm},
	{"a fix without bytes", with(api.Fix{Off: 3}), "", api.ErrForm},
	{"the second without bytes", with(api.Fix{Off: 3, Bytes: "x"}, api.Fix{Off: 9}), "", api.ErrForm},
	{"none, behind the page", with(api.Fix{Off: 16}), "", api.ErrForm},
	{"over the page's end", with(api.Fix{Off: 15, Bytes: "xy"}), "", api.ErrForm},
	{"behind the page", with(api.Fix{Off: 16, Bytes: "x"}), "", api.ErrForm},
	{"ahead of the page", with(api.Fix{Off: -1, Bytes: "xy"}), "", api.ErrForm},
	{"more bytes than the page has", with(api.Fix{Bytes: letters("b") + "b"}), "", api.ErrForm},
	{"very many bytes", with(api.Fix{Bytes: strings.Repeat("b", 100000)}), "", api.ErrForm},
}

func with(f ...api.Fix) api.Sheet { return api.Sheet{Page: 9, Data: letters("a"), Fixes: f} }

func many(n int) []api.Fix {
	var l []api.Fix
	for k := range n {
		l = append(l, api.Fix{Off: k, Bytes: string(rune('a' + k))})
	}
	return l
}

// D1, P1
func TestFill(t *testing.T) {
	for _, c := range sheets {
		if s, err := link.Fill(c.sheet); s != c.want || err != c.err {
			t.Errorf("%s: %q %d, must be %q %d", c.name, s, err, c.want, c.err)
		}
	}
	for _, n := range edges {
		if s, err := link.Fill(api.Sheet{Page: n, Data: letters("a")}); s != "" || err != api.ErrForm {
			t.Errorf("page %d: %q %d", n, s, err)
		}
		if s, err := link.Fill(with(api.Fix{Off: n, Bytes: "x"})); s != "" || err != api.ErrForm {
			t.Errorf("a fix at %d: %q %d", n, s, err)
		}
		if s, err := link.Fill(with(api.Fix{Off: 2, Bytes: "x"}, api.Fix{Off: n, Bytes: "xyz"})); s != "" || err != api.ErrForm {
			t.Errorf("a second fix at %d: %q %d", n, s, err)
		}
	}
}

// linked: pages 2 and 3 to run, 4 to write, 7 to run and write.
func linked() api.Linked {
	return api.Linked{
		Areas: []api.Area{{Page: 2, Pages: 2, Prot: 2}, {Page: 4, Pages: 1, Prot: 1}, {Page: 7, Pages: 1, Prot: 3}},
		Sheets: []api.Sheet{
			{Page: 2, Data: letters("a")}, {Page: 3, Data: letters("b"), Fixes: []api.Fix{{Off: 3, Bytes: "x"}}},
			{Page: 4, Data: letters("c")}, {Page: 7, Data: letters("d")},
		},
		Entry: 40,
	}
}

// D1: each thing that a Linked must have, broken by itself.
func TestCheck(t *testing.T) {
	for _, c := range []struct {
		name string
		turn func(l *api.Linked)
		want api.Errno
	}{
		{"as it is", func(l *api.Linked) {}, api.OK},
		{"nothing at all", func(l *api.Linked) { *l = api.Linked{} }, api.ErrForm},
		{"the first address", func(l *api.Linked) { l.Entry = 32 }, api.OK},
		{"the last place of an area", func(l *api.Linked) { l.Entry = 56 }, api.OK},
		{"a place to run and write", func(l *api.Linked) { l.Entry = 120 }, api.OK},
		{"an entry to write", func(l *api.Linked) { l.Entry = 64 }, api.ErrForm},
		{"an entry that is not mapped", func(l *api.Linked) { l.Entry = 80 }, api.ErrForm},
		{"an entry right ahead", func(l *api.Linked) { l.Entry = 24 }, api.ErrForm},
		{"an entry right behind", func(l *api.Linked) { l.Entry = 128 }, api.ErrForm},
		{"entry 0", func(l *api.Linked) { l.Entry = 0 }, api.ErrForm},
		{"no multiple of 8", func(l *api.Linked) { l.Entry = 36 }, api.ErrForm},
		{"an entry one more", func(l *api.Linked) { l.Entry = 41 }, api.ErrForm},
		{"an area that is Zero", func(l *api.Linked) { l.Areas[1].Zero = true }, api.ErrForm},
		{"the last area is Zero", func(l *api.Linked) { l.Areas[2].Zero = true }, api.ErrForm},
		{"areas that are not right", func(l *api.Linked) { l.Areas[1].Prot = 2 }, api.ErrForm},
		{"an area with no pages", func(l *api.Linked) { l.Areas[1].Pages = 0 }, api.ErrForm},
		{"too many areas", func(l *api.Linked) { l.Areas = make([]api.Area, 256) }, api.ErrMany},
		{"too many areas, and sheets that are not right", func(l *api.Linked) { l.Areas = make([]api.Area, 256); l.Sheets = make([]api.Sheet, 3) }, api.ErrMany},
		{"no sheets", func(l *api.Linked) { l.Sheets = nil }, api.ErrForm},
		{"no areas", func(l *api.Linked) { l.Areas = nil }, api.ErrForm},
		{"the first sheet is missing", func(l *api.Linked) { l.Sheets = l.Sheets[1:] }, api.ErrForm},
		{"the last sheet is missing", func(l *api.Linked) { l.Sheets = l.Sheets[:3] }, api.ErrForm},
		{"a sheet in between is missing", func(l *api.Linked) { l.Sheets = slices.Delete(l.Sheets, 1, 2) }, api.ErrForm},
		{"one sheet more behind", func(l *api.Linked) { l.Sheets = append(l.Sheets, api.Sheet{Page: 8, Data: zeros}) }, api.ErrForm},
		{"one sheet more ahead", func(l *api.Linked) { l.Sheets = slices.Insert(l.Sheets, 0, api.Sheet{Page: 1, Data: zeros}) }, api.ErrForm},
		{"one sheet more in between", func(l *api.Linked) { l.Sheets = slices.Insert(l.Sheets, 3, api.Sheet{Page: 5, Data: zeros}) }, api.ErrForm},
		{"a sheet twice", func(l *api.Linked) { l.Sheets = slices.Insert(l.Sheets, 1, l.Sheets[0]) }, api.ErrForm},
		{"sheets that fall", func(l *api.Linked) { l.Sheets[0], l.Sheets[1] = l.Sheets[1], l.Sheets[0] }, api.ErrForm},
		{"very many sheets", func(l *api.Linked) { l.Sheets = make([]api.Sheet, 100000) }, api.ErrForm},
		{"a sheet of too few bytes", func(l *api.Linked) { l.Sheets[3].Data = "d" }, api.ErrForm},
		{"a sheet whose fix is not right", func(l *api.Linked) { l.Sheets[3].Fixes = []api.Fix{{Off: 16, Bytes: "x"}} }, api.ErrForm},
		{"the first sheet is not right", func(l *api.Linked) { l.Sheets[0].Fixes = []api.Fix{{}} }, api.ErrForm},
		{"a page too many", func(l *api.Linked) { l.Areas[2].Pages = 2 }, api.ErrForm},
		{"all pages", func(l *api.Linked) {
			l.Areas, l.Sheets = []api.Area{{Page: 1, Pages: 255, Prot: 2}}, nil
			for n := range 255 {
				l.Sheets = append(l.Sheets, api.Sheet{Page: 1 + n, Data: zeros})
			}
		}, api.OK},
	} {
		l := linked()
		c.turn(&l)
		if err := link.Check(l); err != c.want {
			t.Errorf("%s: %d, must be %d", c.name, err, c.want)
		}
	}
	for _, n := range edges {
		l := linked()
		l.Entry = n
		if err := link.Check(l); err != api.ErrForm {
			t.Errorf("Entry %d: %d", n, err)
		}
		l = linked()
		l.Sheets[0].Page = n
		if err := link.Check(l); err != api.ErrForm {
			t.Errorf("a sheet of page %d: %d", n, err)
		}
	}
}

// wrong: an image with Check's error.
func wrong(name string, err api.Errno) api.Image {
	i := code(name, 1)
	switch err {
	case api.ErrName:
		i.Name = "A"
	case api.ErrMany:
		i.Segs = nil
	case api.ErrRange:
		i.Segs[0].Pages = 256
	case api.ErrThere:
		i.Needs = []string{"x", "x"}
	case api.ErrNone:
		i.Entry = 4
	}
	return i
}

func asks(name, sym string) api.Image {
	i := code(name, 1)
	i.Rels = []api.Rel{{At: 8, Name: sym}}
	return i
}

// D3, P1: each error, ahead of all that stand behind it.
func TestErrorsOfLink(t *testing.T) {
	seven := func(i api.Image) []api.Image {
		l := []api.Image{i}
		for _, n := range []string{"p", "q", "r", "s", "u", "v"} {
			l = append(l, code(n, 1))
		}
		return l
	}
	has := code("has", 1)
	has.Syms = []api.Sym{{Name: "there"}}
	for _, c := range []struct {
		name string
		main api.Image
		libs []api.Image
		want api.Errno
	}{
		{"six libs", code("main", 1), seven(code("a", 1))[1:], api.OK},
		{"seven libs", code("main", 1), seven(code("a", 1)), api.ErrMany},
		{"seven libs, main is wrong", wrong("main", api.ErrName), seven(code("a", 1)), api.ErrMany},
		{"seven libs, one is wrong", code("main", 1), seven(wrong("a", api.ErrRange)), api.ErrMany},
		{"seven libs of one name", code("main", 1), slices.Repeat([]api.Image{code("main", 1)}, 7), api.ErrMany},
		{"very many libs", code("main", 1), make([]api.Image, 100000), api.ErrMany},
		{"nothing at all", api.Image{}, nil, api.ErrName},
		{"ErrName of main", wrong("main", api.ErrName), nil, api.ErrName},
		{"ErrMany of main", wrong("main", api.ErrMany), nil, api.ErrMany},
		{"ErrRange of main", wrong("main", api.ErrRange), nil, api.ErrRange},
		{"ErrThere of main", wrong("main", api.ErrThere), nil, api.ErrThere},
		{"ErrNone of main", wrong("main", api.ErrNone), nil, api.ErrNone},
		{"main's ahead of a lib's", wrong("main", api.ErrNone), []api.Image{wrong("a", api.ErrName)}, api.ErrNone},
		{"the first lib's ahead of the second's", code("main", 1), []api.Image{wrong("a", api.ErrRange), wrong("b", api.ErrName)}, api.ErrRange},
		{"the second lib's", code("main", 1), []api.Image{code("a", 1), wrong("b", api.ErrThere)}, api.ErrThere},
		{"the last lib's, that is not needed", code("main", 1, "a"), []api.Image{code("a", 1), code("b", 1), wrong("c", api.ErrNone)}, api.ErrNone},
		{"a lib's ahead of names", code("main", 1), []api.Image{code("main", 1), code("main", 1), wrong("b", api.ErrRange)}, api.ErrRange},
		{"two libs of one name", code("main", 1), []api.Image{code("a", 1), code("b", 1), code("a", 2)}, api.ErrThere},
		{"a lib of main's name", code("main", 1), []api.Image{code("a", 1), code("main", 1)}, api.ErrThere},
		{"names ahead of needs", code("main", 1, "nobody"), []api.Image{code("a", 1), code("a", 1)}, api.ErrThere},
		{"names ahead of pages and symbols", asks("main", "nothing"), []api.Image{code("a", 254), code("a", 254)}, api.ErrThere},
		{"a need of main", code("main", 1, "nobody"), nil, api.ErrNone},
		{"main's second need", code("main", 1, "a", "nobody"), []api.Image{code("a", 1)}, api.ErrNone},
		{"a lib's need", code("main", 1, "a"), []api.Image{code("a", 1, "main", "nobody")}, api.ErrNone},
		{"a lib's lib's need", code("main", 1, "a"), []api.Image{code("b", 1, "nobody"), code("a", 1, "b")}, api.ErrNone},
		{"the need of a lib that is not needed", code("main", 1), []api.Image{code("a", 1, "nobody")}, api.OK},
		{"needs ahead of pages", code("main", 255, "a"), []api.Image{code("a", 255, "nobody")}, api.ErrNone},
		{"needs ahead of symbols", api.Image{Name: "main", Needs: []string{"nobody"}, Segs: code("main", 1).Segs, Rels: []api.Rel{{At: 8, Name: "nothing"}}}, nil, api.ErrNone},
		{"main has all pages", code("main", 255), nil, api.OK},
		{"just all pages", code("main", 200, "a"), []api.Image{code("a", 55)}, api.OK},
		{"a page too many", code("main", 200, "a"), []api.Image{code("a", 56)}, api.ErrRange},
		{"all images of all pages", code("main", 255, "a"), []api.Image{code("a", 255, "b"), code("b", 255, "c"), code("c", 255, "d"), code("d", 255, "e"), code("e", 255, "f"), code("f", 255)}, api.ErrRange},
		{"pages of a lib that is not needed", code("main", 200), []api.Image{code("a", 56)}, api.OK},
		{"pages ahead of symbols", asks("main", "there"), nil, api.ErrSym},
		{"pages ahead of symbols, too many", api.Image{Name: "main", Needs: []string{"a"}, Segs: code("main", 255).Segs, Rels: []api.Rel{{At: 8, Name: "nothing"}}}, []api.Image{code("a", 1)}, api.ErrRange},
		{"a symbol of nobody", asks("main", "nothing"), []api.Image{has}, api.ErrSym},
		{"a symbol of a lib that is not needed", asks("main", "there"), []api.Image{has}, api.ErrSym},
		{"an image's name is no symbol", asks("main", "main"), nil, api.ErrSym},
		{"a lib's symbol of nobody", code("main", 1, "a"), []api.Image{asks("a", "nothing"), has}, api.ErrSym},
		{"the symbol of nobody, of a lib that is not needed", code("main", 1), []api.Image{asks("a", "nothing")}, api.OK},
		{"a symbol of a lib's lib", api.Image{Name: "main", Needs: []string{"a"}, Segs: code("main", 1).Segs, Rels: []api.Rel{{At: 8, Name: "there"}}}, []api.Image{has, code("a", 1, "has")}, api.OK},
	} {
		l, err := link.Link(c.main, c.libs)
		if err != c.want {
			t.Errorf("%s: %d, must be %d", c.name, err, c.want)
		}
		if err != api.OK && !sameLinked(l, api.Linked{}) {
			t.Errorf("%s: with an error comes %v", c.name, l)
		}
		if err == api.OK && link.Check(l) != api.OK {
			t.Errorf("%s: what comes is not right", c.name)
		}
	}
}

// D3: pages up to the last one, though the image has a gap; no page of it is above.
func TestPagesUpToTheLastOne(t *testing.T) {
	a := code("a", 1)
	a.Segs = append(a.Segs, api.Seg{Page: 53, Pages: 1, Write: true})
	l := must(t, code("main", 200, "a", "main"), a)
	if last := l.Sheets[len(l.Sheets)-1].Page; last != 254 {
		t.Errorf("the last page is %d", last)
	}
	a.Segs[1].Pages = 2
	if l = must(t, code("main", 200, "a", "main"), a); l.Sheets[len(l.Sheets)-1].Page != 255 {
		t.Error("page 255 is not there")
	}
	a.Segs[1].Page = 54
	if _, err := link.Link(code("main", 200, "a"), []api.Image{a}); err != api.ErrRange {
		t.Errorf("page 256: %d", err)
	}
	b := code("b", 1)
	if _, err := link.Link(code("main", 255, "b"), []api.Image{b}); err != api.ErrRange {
		t.Errorf("a lib behind the last page: %d", err)
	}
}
