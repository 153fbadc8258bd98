package area

import "foliant/api"

// state is what one page has of its area.
type state struct {
	mapped bool
	prot   int
	zero   bool
}

// leaves are all pages, by their numbers.
type leaves [api.MaxPage + 1]state

// turn goes page by page, so that areas are cut and joined in one place alone: gather.
func turn(l []api.Area, page, pages, prot int, how func(state) (state, api.Errno)) ([]api.Area, api.Errno) {
	if err := Check(l); err != api.OK {
		return nil, err
	}
	if !rightPages(page, pages) || !rightProt(prot) {
		return nil, api.ErrRange
	}
	all := spread(l)
	for n := page; n < page+pages; n++ {
		s, err := how(all[n])
		if err != api.OK {
			return nil, err
		}
		all[n] = s
	}
	return gather(all), api.OK
}

func spread(l []api.Area) leaves {
	var all leaves
	for _, a := range l {
		for n := a.Page; n < end(a); n++ {
			all[n] = state{mapped: true, prot: a.Prot, zero: a.Zero}
		}
	}
	return all
}

// gather joins neighbours that are alike: areas that are right have no two such.
func gather(all leaves) []api.Area {
	var l []api.Area
	var last state
	for n, s := range all {
		switch {
		case !s.mapped:
		case s == last:
			l[len(l)-1].Pages++
		default:
			l = append(l, api.Area{Page: n, Pages: 1, Prot: s.prot, Zero: s.zero})
		}
		last = s
	}
	return l
}
