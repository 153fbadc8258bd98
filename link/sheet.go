package link

import (
	"strings"

	"foliant/api"
	"foliant/bits"
)

// relSize is how many bytes a relocation has.
const relSize = 8

// patch is what a relocation comes to: bytes, and the address where they stand.
type patch struct {
	at    int
	bytes string
}

// sheetsOf: the sheets of all objects; false, if a relocation names what none of them has.
func sheetsOf(objects []object) ([]api.Sheet, bool) {
	var l []api.Sheet
	for _, o := range objects {
		patches, ok := patchesOf(o, objects)
		if !ok {
			return nil, false
		}
		for _, s := range o.Segs {
			for n := range s.Pages {
				page := o.base + s.Page + n
				l = append(l, api.Sheet{Page: page, Data: pageOf(s, n), Fixes: fixesOf(page, patches)})
			}
		}
	}
	return l, true
}

func patchesOf(o object, objects []object) ([]patch, bool) {
	var l []patch
	for _, r := range o.Rels {
		to, ok := target(o, objects, r.Name)
		if !ok {
			return nil, false
		}
		s, _ := bits.Put(to+r.Add, relSize) // relSize is a size that Put takes
		l = append(l, patch{at: o.address(r.At), bytes: s})
	}
	return l, true
}

// target: the address that a relocation of that object names.
func target(o object, objects []object, name string) (int, bool) {
	if name == "" {
		return o.address(0), true
	}
	for _, other := range objects {
		if to, ok := other.symbol(name); ok {
			return to, true
		}
	}
	return 0, false
}

// pageOf: page n of the segment, counted from its own first one.
func pageOf(s api.Seg, n int) string {
	begin := min(n*api.PageSize, len(s.Data))
	end := min(begin+api.PageSize, len(s.Data))
	data, _ := bits.Lay(strings.Repeat("\x00", api.PageSize), 0, s.Data[begin:end]) // no more bytes than a page has
	return data
}

// fixesOf cuts the patches to what is in the page; they rise, as relocations do.
func fixesOf(page int, patches []patch) []api.Fix {
	first := page * api.PageSize
	var l []api.Fix
	for _, p := range patches {
		begin := max(first, p.at)
		end := min(first+api.PageSize, p.at+relSize)
		if begin >= end {
			continue
		}
		s, _ := bits.Part(p.bytes, begin-p.at, end-begin) // both ends are in the patch
		l = append(l, api.Fix{Off: begin - first, Bytes: s})
	}
	return l
}
