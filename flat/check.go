package flat

import (
	"foliant/api"
	"foliant/area"
)

// rightCounts: all of what Check says ErrMany of, the words too.
func rightCounts(f api.Flat) bool {
	return len(f.Spaces) >= 1 && len(f.Spaces) <= api.MaxSpaces &&
		len(f.Procs) == len(f.Spaces) &&
		f.Slots >= 0 && f.Slots <= api.MaxSlots &&
		len(f.Out) <= api.MaxPicks
}

func rightSpaces(f api.Flat) bool {
	for _, s := range f.Spaces {
		if !rightSpace(s) {
			return false
		}
	}
	return total(f.Spaces) <= f.Slots
}

func rightSpace(s api.FlatSpace) bool {
	if !s.Live {
		return len(s.Areas) == 0 && len(s.Pages) == 0
	}
	return area.Check(s.Areas) == api.OK && pageForEach(s)
}

// pageForEach asks for right areas: as these rise, pages that go with them one by one do too.
func pageForEach(s api.FlatSpace) bool {
	rest := s.Pages
	for _, a := range s.Areas {
		for n := range a.Pages {
			if len(rest) == 0 || rest[0].Page != a.Page+n || len(rest[0].Data) != api.PageSize {
				return false
			}
			rest = rest[1:]
		}
	}
	return len(rest) == 0
}

// total: how many pages all spaces have mapped.
func total(l []api.FlatSpace) int {
	n := 0
	for _, s := range l {
		n += area.Total(s.Areas)
	}
	return n
}
