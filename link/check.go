package link

import (
	"foliant/api"
	"foliant/area"
)

// rightSheet takes from PageSize, as Off and the length might go round.
func rightSheet(s api.Sheet) bool {
	if s.Page < 1 || s.Page > api.MaxPage || len(s.Data) != api.PageSize {
		return false
	}
	end := 0
	for _, f := range s.Fixes {
		if f.Off < end || f.Off > api.PageSize || len(f.Bytes) < 1 || len(f.Bytes) > api.PageSize-f.Off {
			return false
		}
		end = f.Off + len(f.Bytes)
	}
	return true
}

func rightSheets(l []api.Sheet) bool {
	for _, s := range l {
		if !rightSheet(s) {
			return false
		}
	}
	return true
}

func anyZero(l []api.Area) bool {
	for _, a := range l {
		if a.Zero {
			return true
		}
	}
	return false
}

// sheetForEach asks for right areas: as these rise, sheets that go with them page by page do too.
func sheetForEach(l api.Linked) bool {
	rest := l.Sheets
	for _, a := range l.Areas {
		for n := range a.Pages {
			if len(rest) == 0 || rest[0].Page != a.Page+n {
				return false
			}
			rest = rest[1:]
		}
	}
	return len(rest) == 0
}

// rightEntry needs no look at the sign: division brings what is below 0 to page 0 at most, and that is never mapped.
func rightEntry(l api.Linked) bool {
	a, ok := area.Find(l.Areas, l.Entry/api.PageSize)
	return ok && a.Prot&api.Exec != 0 && l.Entry%instrSize == 0
}
