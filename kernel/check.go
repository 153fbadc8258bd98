package kernel

import (
	"foliant/api"
	"foliant/area"
	"foliant/link"
)

// user is what the entries that name one frame, or one slot, have alike.
type user struct {
	refs, page int
	zero       bool
}

// look: the kernel, with what its sheets are filled with, if it is right.
func look(k api.Kernel) (*memory, api.Errno) {
	if !rightCounts(k) {
		return nil, api.ErrMany
	}
	m := &memory{Kernel: k}
	frames, slots := make([]user, len(k.Frames)), make([]user, len(k.Slots))
	if !m.fillSheets() || k.Hand < 0 || k.Hand >= len(k.Frames) {
		return nil, api.ErrForm
	}
	for _, s := range k.Spaces {
		if !m.rightSpace(s) || !rightEntries(s, frames, slots) {
			return nil, api.ErrForm
		}
	}
	if m.pages() > len(k.Slots) || !m.rightFrames(frames) || !m.rightSlots(slots) {
		return nil, api.ErrForm
	}
	return m, api.OK
}

func rightCounts(k api.Kernel) bool {
	return len(k.Frames) >= api.MinFrames && len(k.Frames) <= api.MaxFrames &&
		len(k.Slots) <= api.MaxSlots &&
		len(k.Spaces) >= 1 && len(k.Spaces) <= api.MaxSpaces &&
		len(k.Sheets) <= api.MaxPage
}

// fillSheets: false, if the sheets are not right, or do not rise.
func (m *memory) fillSheets() bool {
	last := 0
	for _, s := range m.Sheets {
		data, err := link.Fill(s)
		if err != api.OK || s.Page <= last {
			return false
		}
		m.filled[s.Page] = data
		last = s.Page
	}
	return true
}

func (m *memory) rightSpace(s api.Space) bool {
	if !s.Live {
		return len(s.Areas) == 0 && len(s.Entries) == 0
	}
	return area.Check(s.Areas) == api.OK && m.haveSheets(s.Areas)
}

// haveSheets asks for right areas.
func (m *memory) haveSheets(l []api.Area) bool {
	for _, a := range l {
		for n := range a.Pages {
			if !a.Zero && m.filled[a.Page+n] == "" {
				return false
			}
		}
	}
	return true
}

// rightEntries tells frames and slots who uses them on the way.
func rightEntries(s api.Space, frames, slots []user) bool {
	last := 0
	for _, e := range s.Entries {
		a, ok := area.Find(s.Areas, e.Page)
		if !ok || e.Page <= last {
			return false
		}
		last = e.Page
		switch e.Kind {
		case api.Present:
			ok = use(frames, e, a.Zero)
		case api.Swapped:
			ok = use(slots, e, a.Zero)
		default:
			ok = false
		}
		if !ok {
			return false
		}
	}
	return true
}

// use: false, if what the entry names is not there, or is used for something else too.
func use(all []user, e api.Entry, zero bool) bool {
	if e.At < 0 || e.At >= len(all) {
		return false
	}
	u := &all[e.At]
	if u.refs > 0 && (u.page != e.Page || u.zero != zero) {
		return false
	}
	*u = user{refs: u.refs + 1, page: e.Page, zero: zero}
	return true
}

func (m *memory) rightFrames(users []user) bool {
	for n, f := range m.Frames {
		if !m.rightFrame(f, users[n]) {
			return false
		}
	}
	return true
}

func (m *memory) rightFrame(f api.Frame, u user) bool {
	if u.refs == 0 {
		return isZero(f)
	}
	if f.Refs != u.refs || len(f.Data) != api.PageSize {
		return false
	}
	return f.Dirty || f.Data == m.fill(u.page, u.zero)
}

func (m *memory) rightSlots(users []user) bool {
	for n, s := range m.Slots {
		refs := users[n].refs
		if refs == 0 && s != (api.Slot{}) {
			return false
		}
		if refs > 0 && (s.Refs != refs || len(s.Data) != api.PageSize) {
			return false
		}
	}
	return true
}

func isZero(f api.Frame) bool { return f == (api.Frame{}) }
