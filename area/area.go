// Package area: which pages are mapped: see doc/03-area.md.
package area

import "foliant/api"

const maxProt = api.Write | api.Exec

// Check: if the areas are right.
func Check(l []api.Area) api.Errno {
	if len(l) > api.MaxPage {
		return api.ErrMany
	}
	for i, a := range l {
		if !rightPages(a.Page, a.Pages) || !rightProt(a.Prot) {
			return api.ErrForm
		}
		if i > 0 && !mayFollow(l[i-1], a) {
			return api.ErrForm
		}
	}
	return api.OK
}

// Find: the area that has the page.
func Find(l []api.Area, page int) (api.Area, bool) {
	if Check(l) != api.OK {
		return api.Area{}, false
	}
	for _, a := range l {
		if page >= a.Page && page < end(a) {
			return a, true
		}
	}
	return api.Area{}, false
}

// Total: how many pages the areas have together.
func Total(l []api.Area) int {
	if Check(l) != api.OK {
		return 0
	}
	n := 0
	for _, a := range l {
		n += a.Pages
	}
	return n
}

// Map: the pages are mapped, Zero, with that prot.
func Map(l []api.Area, page, pages, prot int) ([]api.Area, api.Errno) {
	return turn(l, page, pages, prot, func(s state) (state, api.Errno) {
		if s.mapped {
			return s, api.ErrThere
		}
		return state{mapped: true, prot: prot, zero: true}, api.OK
	})
}

// Unmap: the pages are mapped no more.
func Unmap(l []api.Area, page, pages int) ([]api.Area, api.Errno) {
	return turn(l, page, pages, 0, func(state) (state, api.Errno) {
		return state{}, api.OK
	})
}

// Protect: the pages have that prot.
func Protect(l []api.Area, page, pages, prot int) ([]api.Area, api.Errno) {
	return turn(l, page, pages, prot, func(s state) (state, api.Errno) {
		if !s.mapped {
			return s, api.ErrNone
		}
		s.prot = prot
		return s, api.OK
	})
}

// rightPages takes page from MaxPage, as page + pages might go round.
func rightPages(page, pages int) bool {
	return page >= 1 && pages >= 1 && pages <= api.MaxPage-page+1
}

func rightProt(prot int) bool { return prot >= 0 && prot <= maxProt }

// mayFollow asks for right pages of both, else the end might go round.
func mayFollow(a, next api.Area) bool {
	if next.Page == end(a) {
		return next.Prot != a.Prot || next.Zero != a.Zero
	}
	return next.Page > end(a)
}

// end is the page behind the last one.
func end(a api.Area) int { return a.Page + a.Pages }
