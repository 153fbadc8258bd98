package image

import "foliant/api"

const (
	relSize   = 8 // bytes that a relocation turns
	instrSize = 8 // an entry is where an instruction may begin
)

func rightNames(i api.Image) bool {
	if !isName(i.Name) {
		return false
	}
	for _, n := range i.Needs {
		if !isName(n) {
			return false
		}
	}
	for _, s := range i.Syms {
		if !isName(s.Name) {
			return false
		}
	}
	for _, r := range i.Rels {
		if r.Name != "" && !isName(r.Name) {
			return false
		}
	}
	return true
}

func isName(s string) bool {
	if len(s) < 1 || len(s) > api.MaxName {
		return false
	}
	for k := range len(s) {
		if !inName(s[k]) {
			return false
		}
	}
	return true
}

func inName(c byte) bool {
	return c >= 'a' && c <= 'z' || c >= '0' && c <= '9' || c == '_'
}

func rightCounts(i api.Image) bool {
	return len(i.Segs) >= 1 && len(i.Segs) <= api.MaxSegs &&
		len(i.Needs) <= api.MaxNeeds && len(i.Syms) <= api.MaxSyms && len(i.Rels) <= api.MaxRels
}

// rightRanges takes Page from MaxPage, as Page + Pages might go round.
func rightRanges(segs []api.Seg) bool {
	for _, s := range segs {
		if s.Page < 0 || s.Pages < 1 || s.Pages > api.MaxPage-s.Page {
			return false
		}
		if len(s.Data) > s.Pages*api.PageSize {
			return false
		}
	}
	return true
}

func overlap(segs []api.Seg) bool {
	for k := 1; k < len(segs); k++ {
		if segs[k].Page < segs[k-1].Page+segs[k-1].Pages {
			return true
		}
	}
	return false
}

func symNames(syms []api.Sym) []string {
	var names []string
	for _, s := range syms {
		names = append(names, s.Name)
	}
	return names
}

func twice(names []string) bool {
	seen := map[string]int{}
	for _, n := range names {
		seen[n]++
		if seen[n] > 1 {
			return true
		}
	}
	return false
}

func symsPlaced(i api.Image) bool {
	for _, s := range i.Syms {
		if _, ok := segAt(i.Segs, s.At); !ok {
			return false
		}
	}
	return true
}

// relsPlaced adds 8 only to the At of a relocation that was found placed: that sum can't go round.
func relsPlaced(i api.Image) bool {
	for k, r := range i.Rels {
		if k > 0 && r.At < i.Rels[k-1].At+relSize {
			return false
		}
		for n := range relSize {
			if _, ok := segAt(i.Segs, r.At+n); !ok {
				return false
			}
		}
	}
	return true
}

func entryPlaced(i api.Image) bool {
	s, ok := segAt(i.Segs, i.Entry)
	return ok && s.Exec && i.Entry%instrSize == 0
}

// segAt asks for a sign first: division would bring addresses right below 0 to page 0.
func segAt(segs []api.Seg, addr int) (api.Seg, bool) {
	if addr < 0 {
		return api.Seg{}, false
	}
	page := addr / api.PageSize
	for _, s := range segs {
		if page >= s.Page && page < s.Page+s.Pages {
			return s, true
		}
	}
	return api.Seg{}, false
}
