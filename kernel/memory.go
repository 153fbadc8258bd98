package kernel

import (
	"slices"
	"strings"

	"foliant/api"
	"foliant/area"
	"foliant/copies"
)

// memory is a kernel that was found right, and what a page begins with, by the page: a sheet, filled (an empty text, if there is none).
type memory struct {
	api.Kernel
	filled [api.MaxPage + 1]string
}

// open: the kernel, only to be read, if it is right and has that space.
func open(k api.Kernel, space int) (*memory, api.Errno) {
	m, err := look(k)
	if err != api.OK {
		return nil, err
	}
	if space < 0 || space >= len(k.Spaces) || !k.Spaces[space].Live {
		return nil, api.ErrNone
	}
	return m, api.OK
}

// openFor: the kernel, to be changed, if so many bytes may be asked for in one of these ways.
func openFor(k api.Kernel, space, size, way int, ways ...int) (*memory, api.Errno) {
	m, err := open(k, space)
	switch {
	case err != api.OK:
		return nil, err
	case size < 1 || size > maxSize:
		return nil, api.ErrRange
	case !slices.Contains(ways, way):
		return nil, api.ErrKind
	}
	m.own()
	return m, api.OK
}

// own gives the kernel memory of its own, ahead of the first change: what was handed in is only read.
func (m *memory) own() { m.Kernel = copies.Kernel(m.Kernel) }

// pages: how many pages all spaces have mapped.
func (m *memory) pages() int {
	n := 0
	for _, s := range m.Spaces {
		n += area.Total(s.Areas)
	}
	return n
}

// fill: what a page is filled with.
func (m *memory) fill(page int, zero bool) string {
	if zero {
		return strings.Repeat("\x00", api.PageSize)
	}
	return m.filled[page]
}

// holds: what a mapped page of that area holds.
func (m *memory) holds(space, page int, a api.Area) string {
	e, _ := m.entry(space, page)
	switch e.Kind {
	case api.Present:
		return m.Frames[e.At].Data
	case api.Swapped:
		return m.Slots[e.At].Data
	}
	return m.fill(page, a.Zero)
}

// entry: the one of that page, if it has one.
func (m *memory) entry(space, page int) (api.Entry, bool) {
	l := m.Spaces[space].Entries
	n := slices.IndexFunc(l, func(e api.Entry) bool { return e.Page == page })
	if n < 0 {
		return api.Entry{}, false
	}
	return l[n], true
}

// enter puts the entry in the place of the one of its page, or among the others, so that they rise.
func (m *memory) enter(space int, e api.Entry) {
	s := &m.Spaces[space]
	n := slices.IndexFunc(s.Entries, func(other api.Entry) bool { return other.Page >= e.Page })
	switch {
	case n < 0:
		s.Entries = append(s.Entries, e)
	case s.Entries[n].Page == e.Page:
		s.Entries[n] = e
	default:
		s.Entries = slices.Insert(s.Entries, n, e)
	}
}

// forget: the entries that are told are there no more.
func (m *memory) forget(space int, which func(api.Entry) bool) {
	s := &m.Spaces[space]
	for _, e := range s.Entries {
		if which(e) {
			m.count(e, -1)
		}
	}
	s.Entries = slices.DeleteFunc(s.Entries, which)
}

// count: so many entries more name what this one names; what none names any more is zero.
func (m *memory) count(e api.Entry, more int) {
	if e.Kind == api.Present {
		f := &m.Frames[e.At]
		f.Refs += more
		if f.Refs == 0 {
			*f = api.Frame{}
		}
		return
	}
	s := &m.Slots[e.At]
	s.Refs += more
	if s.Refs == 0 {
		*s = api.Slot{}
	}
}

// withAreas: the space has the areas that turn makes of its own; entries of pages that are not mapped any more go.
func withAreas(k api.Kernel, space int, turn func([]api.Area) ([]api.Area, api.Errno)) (api.Kernel, api.Errno) {
	m, err := open(k, space)
	if err != api.OK {
		return api.Kernel{}, err
	}
	before := m.Spaces[space].Areas
	l, err := turn(before)
	switch {
	case err != api.OK:
		return api.Kernel{}, err
	case m.pages()-area.Total(before)+area.Total(l) > len(m.Slots):
		return api.Kernel{}, api.ErrRoom
	}
	m.own()
	m.forget(space, func(e api.Entry) bool {
		_, ok := area.Find(l, e.Page)
		return !ok
	})
	m.Spaces[space].Areas = l
	return m.Kernel, api.OK
}
