package link_test

import (
	"encoding/binary"
	"fmt"
	"slices"
	"strings"
	"testing"

	"foliant/api"
	"foliant/link"
)

// draw is a script of numbers, the same each time.
type draw uint64

func (d *draw) n(n int) int {
	*d = *d*6364136223846793005 + 1442695040888963407
	return int(uint64(*d) >> 33 % uint64(n))
}

// drawn: an image of some segments, with symbols that two images may share, and relocations that lie as they come.
func drawn(r *draw, name string, needs []string) api.Image {
	i := api.Image{Name: name, Needs: needs}
	page := r.n(2)
	for n := range 1 + r.n(4) {
		s := api.Seg{Page: page, Pages: 1 + r.n(3), Write: r.n(2) == 0, Exec: n == 0 || r.n(2) == 0}
		s.Data = strings.Repeat(string([]byte{byte(1 + r.n(255))}), r.n(s.Pages*api.PageSize+1))
		i.Segs = append(i.Segs, s)
		page += s.Pages + r.n(3)/2
	}
	i.Entry = i.Segs[0].Page*api.PageSize + 8*r.n(2)
	for n := range 1 + r.n(3) {
		i.Syms = append(i.Syms, api.Sym{Name: fmt.Sprint("s", n), At: i.Segs[0].Page*api.PageSize + r.n(api.PageSize)})
	}
	for at := r.n(30); at < page*api.PageSize && len(i.Rels) < api.MaxRels; at += 8 + r.n(14) {
		if !inSegs(i.Segs, at) || !inSegs(i.Segs, at+7) {
			continue
		}
		rel := api.Rel{At: at, Add: r.n(1000) - 500}
		if r.n(2) == 0 {
			rel.Name = fmt.Sprint("s", r.n(3))
		}
		i.Rels = append(i.Rels, rel)
	}
	return i
}

func inSegs(segs []api.Seg, at int) bool {
	return slices.ContainsFunc(segs, func(s api.Seg) bool {
		return at >= s.Page*api.PageSize && at < (s.Page+s.Pages)*api.PageSize
	})
}

// long lays all bytes in one long text first, and then all relocations over it whole; false, if a symbol is nobody's. (All objects are given, in their order.)
func long(objects []api.Image) ([]byte, map[int]int, bool) {
	all := make([]byte, (api.MaxPage+1)*api.PageSize)
	prots := map[int]int{}
	syms := map[string]int{}
	bases := map[string]int{}
	base := 1
	for _, o := range objects {
		bases[o.Name] = base * api.PageSize
		for _, s := range o.Syms {
			if _, ok := syms[s.Name]; !ok {
				syms[s.Name] = bases[o.Name] + s.At
			}
		}
		end := 0
		for _, s := range o.Segs {
			copy(all[(base+s.Page)*api.PageSize:], s.Data)
			prot := 0
			if s.Write {
				prot += 1
			}
			if s.Exec {
				prot += 2
			}
			for n := range s.Pages {
				prots[base+s.Page+n] = prot
			}
			end = s.Page + s.Pages
		}
		base += end
	}
	for _, o := range objects {
		for _, r := range o.Rels {
			to, ok := syms[r.Name]
			if r.Name == "" {
				to, ok = bases[o.Name], true
			}
			if !ok {
				return nil, nil, false
			}
			binary.LittleEndian.PutUint64(all[bases[o.Name]+r.At:], uint64(to+r.Add))
		}
	}
	return all, prots, true
}

// reached: the objects, in their order, found by another way than the linker's: a queue of names.
func reached(main api.Image, libs []api.Image) []api.Image {
	var objects []api.Image
	for queue := []string{main.Name}; len(queue) > 0; queue = queue[1:] {
		if slices.ContainsFunc(objects, func(i api.Image) bool { return i.Name == queue[0] }) {
			continue
		}
		for _, i := range append([]api.Image{main}, libs...) {
			if i.Name == queue[0] {
				objects = append(objects, i)
				queue = append(queue, i.Needs...)
			}
		}
	}
	return objects
}

// D2, D4, and what the whole promises: Fill of all sheets is what comes if all bytes are laid first, and relocations then.
func TestFilledPagesAreTheLongText(t *testing.T) {
	right, nobody := 0, 0
	for seed := range 400 {
		r := draw(seed)
		names := []string{"main", "a", "b", "c"}
		var all []api.Image
		for _, name := range names {
			var needs []string
			for _, need := range names {
				if r.n(2) == 0 {
					needs = append(needs, need)
				}
			}
			all = append(all, drawn(&r, name, needs))
		}
		l, err := link.Link(all[0], all[1:])
		want, prots, ok := long(reached(all[0], all[1:]))
		if !ok {
			nobody++
			if err != api.ErrSym {
				t.Fatalf("seed %d: %d, must be ErrSym", seed, err)
			}
			continue
		}
		right++
		if err != api.OK || link.Check(l) != api.OK || l.Entry != api.PageSize+all[0].Entry {
			t.Fatalf("seed %d: %d, Check %d, Entry %d", seed, err, link.Check(l), l.Entry)
		}
		sameAsLong(t, l, want, prots)
	}
	if right < 50 || nobody < 50 {
		t.Errorf("%d are right, %d ask for what is nobody's: too few", right, nobody)
	}
}

func sameAsLong(t *testing.T, l api.Linked, want []byte, prots map[int]int) {
	t.Helper()
	if len(l.Sheets) != len(prots) {
		t.Fatalf("%d sheets, must be %d", len(l.Sheets), len(prots))
	}
	for _, s := range l.Sheets {
		got, err := link.Fill(s)
		if w := string(want[s.Page*api.PageSize : (s.Page+1)*api.PageSize]); err != api.OK || got != w {
			t.Fatalf("page %d: %x %d, must be %x", s.Page, got, err, w)
		}
	}
	for _, a := range l.Areas {
		for n := range a.Pages {
			if p, ok := prots[a.Page+n]; !ok || p != a.Prot {
				t.Fatalf("page %d: Prot %d, must be %d %v", a.Page+n, a.Prot, p, ok)
			}
		}
	}
}

// roomy: a list with spare room behind it, and all of that room.
func roomy[T any](l []T, spare T) ([]T, []T) {
	room := append(slices.Clone(l), slices.Repeat([]T{spare}, 20)...)
	return room[:len(l)], room
}

// shown: images with all that is behind their lists.
func shown(libs []api.Image) string { return fmt.Sprintf("%+v", libs[:cap(libs)]) + roomOf(libs) }

func roomOf(libs []api.Image) string {
	s := ""
	for _, i := range libs {
		s += fmt.Sprintf("%+v %+v %+v %+v ", i.Needs[:cap(i.Needs)], i.Segs[:cap(i.Segs)], i.Syms[:cap(i.Syms)], i.Rels[:cap(i.Rels)])
	}
	return s
}

func roomyImage(i api.Image) api.Image {
	i.Needs, _ = roomy(i.Needs, "spare")
	i.Segs, _ = roomy(i.Segs, api.Seg{Data: "spare"})
	i.Syms, _ = roomy(i.Syms, api.Sym{Name: "spare"})
	i.Rels, _ = roomy(i.Rels, api.Rel{Name: "spare"})
	return i
}

// P2, P3: images that are handed in are only read, the room behind their lists too, and not kept.
func TestImagesAreOnlyRead(t *testing.T) {
	main := roomyImage(fixed(api.Rel{At: 12}, api.Rel{At: 27, Name: "both"}))
	libs, _ := roomy(fixedLibs(), api.Image{Name: "spare"})
	for n := range libs {
		libs[n] = roomyImage(libs[n])
	}
	before := shown(libs) + roomOf([]api.Image{main})
	got := must(t, main, libs...)
	again := must(t, main, libs...)
	if shown(libs)+roomOf([]api.Image{main}) != before {
		t.Fatal("what was handed in has changed")
	}
	if !sameLinked(got, again) {
		t.Errorf("it is %v, and then %v", got, again)
	}
	for _, i := range append(libs, main) {
		clear(i.Needs)
		clear(i.Segs)
		clear(i.Syms)
		clear(i.Rels)
	}
	clear(libs)
	want := must(t, fixed(api.Rel{At: 12}, api.Rel{At: 27, Name: "both"}), fixedLibs()...)
	if !sameLinked(got, want) {
		t.Error("the answer changes with what was handed in")
	}
	ownLists(t, got)
}

// ownLists writes over each list, its spare room too, and looks if another one changes.
func ownLists(t *testing.T, l api.Linked) {
	t.Helper()
	for n := range l.Sheets {
		want := fmt.Sprintf("%+v", l)
		fixes := l.Sheets[n].Fixes
		kept := slices.Clone(fixes)
		for k := range fixes[:cap(fixes)] {
			fixes[:cap(fixes)][k] = api.Fix{Off: -7}
		}
		copy(fixes, kept)
		if fmt.Sprintf("%+v", l) != want {
			t.Fatalf("the fixes of page %d share memory with others", l.Sheets[n].Page)
		}
	}
}

// P2, P3: Check and Fill only read, the room behind the lists too.
func TestCheckAndFillOnlyRead(t *testing.T) {
	l := linked()
	l.Areas, _ = roomy(l.Areas, api.Area{Page: -7})
	l.Sheets, _ = roomy(l.Sheets, api.Sheet{Page: -7})
	l.Sheets[1].Fixes, _ = roomy(l.Sheets[1].Fixes, api.Fix{Off: -7})
	all := func() string {
		fixes := l.Sheets[1].Fixes
		return fmt.Sprintf("%+v %+v %+v", l.Areas[:cap(l.Areas)], l.Sheets[:cap(l.Sheets)], fixes[:cap(fixes)])
	}
	before := all()
	for range 2 {
		if err := link.Check(l); err != api.OK {
			t.Errorf("Check: %d", err)
		}
		if s, err := link.Fill(l.Sheets[1]); s != "bbbxbbbbbbbbbbbb" || err != api.OK {
			t.Errorf("Fill: %q %d", s, err)
		}
	}
	if all() != before {
		t.Error("what was handed in has changed")
	}
}

// P2: lists without elements may be nil or not.
func TestEmptyListsAreNilOrNot(t *testing.T) {
	main := code("main", 1)
	main.Needs, main.Syms, main.Rels = []string{}, []api.Sym{}, []api.Rel{}
	if !sameLinked(must(t, main), must(t, code("main", 1))) {
		t.Error("lists that are not nil")
	}
	l, err := link.Link(main, []api.Image{})
	if err != api.OK || !sameLinked(l, must(t, main)) {
		t.Errorf("no libs, not nil: %v %d", l, err)
	}
	if s, err := link.Fill(api.Sheet{Page: 1, Data: zeros, Fixes: []api.Fix{}}); s != zeros || err != api.OK {
		t.Errorf("no fixes, not nil: %q %d", s, err)
	}
}
