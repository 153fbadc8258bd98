package image_test

import (
	"math"
	"strings"
	"testing"

	"foliant/api"
	"foliant/image"
)

// fine has segments right behind one another (pages 0 and 1, page 2), a gap (page 3), and one more segment (pages 4 to 6).
func fine() api.Image {
	return api.Image{
		Name:  "main",
		Needs: []string{"liba", "b_2"},
		Segs: []api.Seg{
			{Page: 0, Pages: 2, Data: "code\x00\xff\n", Exec: true},
			{Page: 2, Pages: 1, Data: "", Write: true},
			{Page: 4, Pages: 3, Data: "both", Write: true, Exec: true},
		},
		Syms:  []api.Sym{{Name: "start", At: 0}, {Name: "s1", At: 40}},
		Rels:  []api.Rel{{At: 3, Name: "f", Add: -4}, {At: 28, Name: "start", Add: math.MaxInt}, {At: 64, Add: math.MinInt}},
		Entry: 8,
	}
}

// small is the document's second example.
func small() api.Image {
	return api.Image{Name: "a", Segs: []api.Seg{{Pages: 1, Data: strings.Repeat("\x01", 16), Exec: true}}}
}

type change struct {
	name string
	turn func(i *api.Image)
}

func numbered(n int) []string {
	var names []string
	for k := range n {
		names = append(names, "n"+string(rune('a'+k)))
	}
	return names
}

func symsOf(n int) []api.Sym {
	var syms []api.Sym
	for k, name := range numbered(n) {
		syms = append(syms, api.Sym{Name: name, At: k})
	}
	return syms
}

func relsOf(n int) []api.Rel {
	var rels []api.Rel
	for k := range n {
		rels = append(rels, api.Rel{At: 8 * k})
	}
	return rels
}

func segsOf(n int) []api.Seg {
	var segs []api.Seg
	for k := range n {
		segs = append(segs, api.Seg{Page: 40 * k, Pages: 15, Exec: true})
	}
	return segs
}

var rightOnes = []change{
	{"as it is", func(i *api.Image) {}},
	{"the document's second example", func(i *api.Image) { *i = small() }},
	{"a name of one byte", func(i *api.Image) { i.Name = "_" }},
	{"a name of MaxName bytes", func(i *api.Image) { i.Name = "az0189_mnopq" }},
	{"it needs itself", func(i *api.Image) { i.Needs[0] = i.Name }},
	{"a need and a symbol of one name", func(i *api.Image) { i.Needs[0] = i.Syms[0].Name }},
	{"relocations of one name", func(i *api.Image) { i.Rels[0].Name = i.Rels[1].Name }},
	{"lists without elements", func(i *api.Image) { i.Needs, i.Syms, i.Rels = []string{}, []api.Sym{}, []api.Rel{} }},
	{"nil lists", func(i *api.Image) { i.Needs, i.Syms, i.Rels = nil, nil, nil }},
	{"MaxNeeds needs", func(i *api.Image) { i.Needs = numbered(4) }},
	{"MaxSyms symbols", func(i *api.Image) { i.Syms = symsOf(12) }},
	{"MaxRels relocations", func(i *api.Image) { i.Segs, i.Rels = segsOf(1), relsOf(16) }},
	{"MaxSegs segments", func(i *api.Image) { i.Segs = segsOf(6); i.Syms, i.Rels = nil, nil }},
	{"up to MaxPage", func(i *api.Image) { i.Segs[2].Pages = 251 }},
	{"one page, up to MaxPage", func(i *api.Image) { i.Segs[2] = api.Seg{Page: 254, Pages: 1}; i.Rels = nil }},
	{"all pages", func(i *api.Image) { i.Segs = []api.Seg{{Pages: 255, Exec: true}} }},
	{"Data of all pages", func(i *api.Image) { i.Segs[0].Data = strings.Repeat("x", 32) }},
	{"a segment right behind the one ahead", func(i *api.Image) { i.Segs[2].Page = 3 }},
	{"a symbol at the last byte", func(i *api.Image) { i.Syms[0].At = 7*16 - 1 }},
	{"a symbol at the last byte ahead of the gap", func(i *api.Image) { i.Syms[0].At = 3*16 - 1 }},
	{"a symbol at the first byte behind the gap", func(i *api.Image) { i.Syms[0].At = 4 * 16 }},
	{"symbols at one address", func(i *api.Image) { i.Syms[0].At = i.Syms[1].At }},
	{"a relocation of the last bytes", func(i *api.Image) { i.Rels[2].At = 7*16 - 8 }},
	{"a relocation of the last bytes ahead of the gap", func(i *api.Image) { i.Rels[1].At = 3*16 - 8 }},
	{"a relocation right behind another", func(i *api.Image) { i.Rels[1].At = 11 }},
	{"a relocation over two segments", func(i *api.Image) { i.Rels[1].At = 31 }},
	{"the last Entry", func(i *api.Image) { i.Entry = 7*16 - 8 }},
	{"Entry 0", func(i *api.Image) { i.Entry = 0 }},
	{"Entry behind the gap", func(i *api.Image) { i.Entry = 64 }},
}

var wrongNames = []change{
	{"no Name", func(i *api.Image) { i.Name = "" }},
	{"a Name of MaxName + 1 bytes", func(i *api.Image) { i.Name = "abcdefghijklm" }},
	{"a very long Name", func(i *api.Image) { i.Name = strings.Repeat("a", 1<<16) }},
	{"an empty need", func(i *api.Image) { i.Needs[1] = "" }},
	{"a long need", func(i *api.Image) { i.Needs[1] = "abcdefghijklm" }},
	{"a need with a blank", func(i *api.Image) { i.Needs[1] = "a b" }},
	{"an empty symbol", func(i *api.Image) { i.Syms[1].Name = "" }},
	{"a long symbol", func(i *api.Image) { i.Syms[1].Name = "abcdefghijklm" }},
	{"a symbol with a capital", func(i *api.Image) { i.Syms[1].Name = "aB" }},
	{"a long name of a relocation", func(i *api.Image) { i.Rels[2].Name = "abcdefghijklm" }},
	{"a relocation's name is a blank", func(i *api.Image) { i.Rels[2].Name = " " }},
	{"the last one of too many needs", func(i *api.Image) { i.Needs = append(numbered(20), "A") }},
}

var wrongCounts = []change{
	{"no segments", func(i *api.Image) { i.Segs = nil }},
	{"no segments, not nil", func(i *api.Image) { i.Segs = []api.Seg{} }},
	{"MaxSegs + 1 segments", func(i *api.Image) { i.Segs = segsOf(7) }},
	{"MaxNeeds + 1 needs", func(i *api.Image) { i.Needs = numbered(5) }},
	{"MaxSyms + 1 symbols", func(i *api.Image) { i.Syms = symsOf(13) }},
	{"MaxRels + 1 relocations", func(i *api.Image) { i.Rels = relsOf(17) }},
	{"very many relocations", func(i *api.Image) { i.Rels = make([]api.Rel, 5000) }},
}

var wrongRanges = []change{
	{"Page -1", func(i *api.Image) { i.Segs[0].Page = -1 }},
	{"the least Page", func(i *api.Image) { i.Segs[0].Page = math.MinInt }},
	{"the greatest Page", func(i *api.Image) { i.Segs[2].Page = math.MaxInt }},
	{"the greatest Page, and the most Pages", func(i *api.Image) { i.Segs[2].Page, i.Segs[2].Pages = math.MaxInt, math.MaxInt }},
	{"so many Pages that it goes round", func(i *api.Image) { i.Segs[2].Page, i.Segs[2].Pages = math.MaxInt-1, 2 }},
	{"the least Page, and the most Pages", func(i *api.Image) { i.Segs[0].Page, i.Segs[0].Pages = math.MinInt, math.MaxInt }},
	{"no Pages", func(i *api.Image) { i.Segs[1].Pages = 0 }},
	{"no Pages at MaxPage", func(i *api.Image) { i.Segs[2].Page, i.Segs[2].Pages = 255, 0 }},
	{"fewer than no Pages", func(i *api.Image) { i.Segs[1].Pages = -1 }},
	{"the fewest Pages", func(i *api.Image) { i.Segs[1].Pages = math.MinInt }},
	{"the most Pages", func(i *api.Image) { i.Segs[2].Pages = math.MaxInt }},
	{"so many Pages that their bytes go round", func(i *api.Image) { i.Segs[2].Pages = 1 << 60 }},
	{"one above MaxPage", func(i *api.Image) { i.Segs[2].Pages = 252 }},
	{"one page at MaxPage", func(i *api.Image) { i.Segs[2].Page, i.Segs[2].Pages = 255, 1 }},
	{"one byte too many", func(i *api.Image) { i.Segs[0].Data = strings.Repeat("x", 33) }},
	{"one byte too many in the last segment", func(i *api.Image) { i.Segs[2].Data = strings.Repeat("x", 49) }},
}

var wrongTwice = []change{
	{"a segment at the last page of the one ahead", func(i *api.Image) { i.Segs[1].Page = 1 }},
	{"a segment at the first page of the one ahead", func(i *api.Image) { i.Segs[1].Page = 0 }},
	{"a segment ahead of the one ahead", func(i *api.Image) { i.Segs[1].Page = 10 }},
	{"the last segment is in the first one", func(i *api.Image) { i.Segs[2].Page = 1 }},
	{"two needs alike", func(i *api.Image) { i.Needs[0] = i.Needs[1] }},
	{"the first need and the last one alike", func(i *api.Image) { i.Needs = []string{"x", "y", "z", "x"} }},
	{"two symbols alike", func(i *api.Image) { i.Syms[0].Name = i.Syms[1].Name }},
	{"the first symbol and the last one alike", func(i *api.Image) { i.Syms = symsOf(12); i.Syms[11].Name = "na" }},
}

var wrongPlaces = []change{
	{"a symbol at -1", func(i *api.Image) { i.Syms[0].At = -1 }},
	{"a symbol at -16", func(i *api.Image) { i.Syms[0].At = -16 }},
	{"a symbol at the least address", func(i *api.Image) { i.Syms[0].At = math.MinInt }},
	{"a symbol at the greatest address", func(i *api.Image) { i.Syms[0].At = math.MaxInt }},
	{"a symbol at the first byte of the gap", func(i *api.Image) { i.Syms[1].At = 3 * 16 }},
	{"a symbol at the last byte of the gap", func(i *api.Image) { i.Syms[1].At = 4*16 - 1 }},
	{"a symbol behind all", func(i *api.Image) { i.Syms[1].At = 7 * 16 }},
	{"a relocation at -1", func(i *api.Image) { i.Rels[0].At = -1 }},
	{"a relocation at -8", func(i *api.Image) { i.Rels[0].At = -8 }},
	{"a relocation at the least address", func(i *api.Image) { i.Rels[0].At = math.MinInt }},
	{"a relocation at the greatest address", func(i *api.Image) { i.Rels[2].At = math.MaxInt }},
	{"a relocation of the greatest addresses", func(i *api.Image) { i.Rels[2].At = math.MaxInt - 7 }},
	{"a relocation behind one at the greatest address", func(i *api.Image) { i.Rels[0].At = math.MaxInt }},
	{"a relocation's last byte in the gap", func(i *api.Image) { i.Rels[1].At = 3*16 - 7 }},
	{"a relocation's first byte in the gap", func(i *api.Image) { i.Rels[2].At = 4*16 - 1 }},
	{"a relocation's last byte behind all", func(i *api.Image) { i.Rels[2].At = 7*16 - 7 }},
	{"a relocation behind all", func(i *api.Image) { i.Rels[2].At = 7 * 16 }},
	{"a relocation in the last byte of another", func(i *api.Image) { i.Rels[1].At = 10 }},
	{"a relocation where another is", func(i *api.Image) { i.Rels[1].At = 3 }},
	{"a relocation ahead of the one ahead", func(i *api.Image) { i.Rels[2].At = 16 }},
	{"Entry 4", func(i *api.Image) { i.Entry = 4 }},
	{"Entry 9", func(i *api.Image) { i.Entry = 9 }},
	{"Entry -8", func(i *api.Image) { i.Entry = -8 }},
	{"the least Entry", func(i *api.Image) { i.Entry = math.MinInt }},
	{"the greatest Entry", func(i *api.Image) { i.Entry = math.MaxInt - 7 }},
	{"Entry in a segment without Exec", func(i *api.Image) { i.Entry = 32 }},
	{"Entry in the gap", func(i *api.Image) { i.Entry = 48 }},
	{"Entry behind all", func(i *api.Image) { i.Entry = 7 * 16 }},
	{"no Exec", func(i *api.Image) { i.Segs[0].Exec, i.Segs[2].Exec = false, false }},
}

// wrongs are the groups of errors, in the order in which Check tells them.
var wrongs = []struct {
	err  api.Errno
	ones []change
}{
	{api.ErrName, wrongNames}, {api.ErrMany, wrongCounts}, {api.ErrRange, wrongRanges}, {api.ErrThere, wrongTwice}, {api.ErrNone, wrongPlaces},
}

func changed(c change) api.Image {
	i := fine()
	c.turn(&i)
	return i
}

// B1
func TestCheckOfRightOnes(t *testing.T) {
	for _, c := range rightOnes {
		if err := image.Check(changed(c)); err != api.OK {
			t.Errorf("%s: %d", c.name, err)
		}
	}
}

// B1
func TestCheckOfWrongOnes(t *testing.T) {
	for _, g := range wrongs {
		for _, c := range g.ones {
			if err := image.Check(changed(c)); err != g.err {
				t.Errorf("%s: %d, must be %d", c.name, err, g.err)
			}
		}
	}
}

// B1: of each byte, in each of the names.
func TestBytesOfNames(t *testing.T) {
	for b := range 256 {
		c := string([]byte{byte(b)})
		want := api.ErrName
		if strings.Contains("abcdefghijklmnopqrstuvwxyz0123456789_", c) {
			want = api.OK
		}
		for _, name := range []string{c, c + "a", "a" + c, "abcde" + c + "ghijkl"} {
			for k, turn := range []func(i *api.Image){
				func(i *api.Image) { i.Name = name },
				func(i *api.Image) { i.Needs[0] = name },
				func(i *api.Image) { i.Syms[0].Name = name },
				func(i *api.Image) { i.Rels[0].Name = name },
			} {
				i := fine()
				i.Needs[1], i.Syms[1].Name = "other", "other"
				turn(&i)
				if err := image.Check(i); err != want {
					t.Errorf("%q, place %d: %d, must be %d", name, k, err, want)
				}
			}
		}
	}
}

// B1, P1: images with two errors, each in a part of its own, so that neither mends the other.
func TestWhichErrorIsFirst(t *testing.T) {
	parts := map[api.Errno][]func(i *api.Image){
		api.ErrName: {
			func(i *api.Image) { i.Name = "A" },
			func(i *api.Image) { i.Needs = append(i.Needs, "") },
			func(i *api.Image) { i.Syms = append(i.Syms, api.Sym{Name: "-"}) },
			func(i *api.Image) { i.Rels = append(i.Rels, api.Rel{At: 80, Name: "abcdefghijklm"}) },
		},
		api.ErrMany: {
			func(i *api.Image) { i.Needs = append(i.Needs, "v", "w", "x", "y", "z") },
			func(i *api.Image) { i.Syms = append(i.Syms, symsOf(13)...) },
			func(i *api.Image) { i.Rels = append(i.Rels, make([]api.Rel, 17)...) },
			func(i *api.Image) { i.Segs = append(i.Segs, segsOf(6)...) },
		},
		api.ErrRange: {
			func(i *api.Image) { i.Segs[1].Page = -1 },
			func(i *api.Image) { i.Segs[2].Pages = 252 },
			func(i *api.Image) { i.Segs[2].Data = strings.Repeat("x", 1000) },
		},
		api.ErrThere: {
			func(i *api.Image) { i.Segs[0].Pages = 3 },
			func(i *api.Image) { i.Needs = append(i.Needs, i.Needs[0]) },
			func(i *api.Image) { i.Syms = append(i.Syms, i.Syms[0]) },
		},
		api.ErrNone: {
			func(i *api.Image) { i.Syms[0].At = -1 },
			func(i *api.Image) { i.Rels[0].At = math.MaxInt },
			func(i *api.Image) { i.Entry = 5 },
		},
	}
	for a, first := range wrongs {
		for _, second := range wrongs[a+1:] {
			for n, f := range parts[first.err] {
				for m, s := range parts[second.err] {
					i := fine()
					s(&i)
					if err := image.Check(i); err != second.err {
						t.Fatalf("error %d, number %d, alone: %d", second.err, m, err)
					}
					f(&i)
					if err := image.Check(i); err != first.err {
						t.Errorf("errors %d, number %d, and %d, number %d: %d", first.err, n, second.err, m, err)
					}
					if s, err := image.Write(i); s != "" || err != first.err {
						t.Errorf("Write with errors %d and %d: %q %d", first.err, second.err, s, err)
					}
				}
			}
		}
	}
}
