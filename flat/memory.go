package flat

import (
	"cmp"
	"slices"
	"strings"

	"foliant/api"
	"foliant/area"
	"foliant/bits"
	"foliant/fault"
)

// memory is the spaces of a right machine, to be changed; it is the processes' proc.Memory.
type memory struct {
	slots  int
	spaces []api.FlatSpace
}

func newMemory(f api.Flat) *memory {
	m := &memory{slots: f.Slots}
	for _, s := range f.Spaces {
		m.spaces = append(m.spaces, copyOf(s))
	}
	return m
}

func copyOf(s api.FlatSpace) api.FlatSpace {
	return api.FlatSpace{Live: s.Live, Areas: slices.Clone(s.Areas), Pages: slices.Clone(s.Pages)}
}

// place: where the page is, or would be, among pages that rise.
func place(l []api.FlatPage, page int) (int, bool) {
	return slices.BinarySearchFunc(l, page, func(p api.FlatPage, page int) int { return cmp.Compare(p.Page, page) })
}

// Load: see proc.Memory.
func (m *memory) Load(space, addr, size, way int) (string, api.Fault) {
	pages, f := m.reach(space, addr, size, way)
	if f.Kind != api.NoFault {
		return "", f
	}
	s, _ := bits.Part(join(pages), addr%api.PageSize, size) // the pages have all these bytes
	return s, api.Fault{}
}

// Store: see proc.Memory.
func (m *memory) Store(space, addr int, s string) api.Fault {
	pages, f := m.reach(space, addr, len(s), api.ToWrite)
	if f.Kind != api.NoFault {
		return f
	}
	data, _ := bits.Lay(join(pages), addr%api.PageSize, s) // the pages have all these bytes
	for n := range pages {
		pages[n].Data, _ = bits.Part(data, n*api.PageSize, api.PageSize)
	}
	return api.Fault{}
}

// reach: the pages that have these bytes, as a part of the space's own; none, with a fault.
func (m *memory) reach(space, addr, size, way int) ([]api.FlatPage, api.Fault) {
	s := m.spaces[space]
	if f := fault.Of(s.Areas, addr, size, way); f.Kind != api.NoFault {
		return nil, f
	}
	first, last := addr/api.PageSize, (addr+size-1)/api.PageSize
	n, _ := place(s.Pages, first) // without a fault all of them are mapped, so that they lie one behind the other
	return s.Pages[n : n+last-first+1], api.Fault{}
}

func join(pages []api.FlatPage) string {
	data := ""
	for _, p := range pages {
		data += p.Data
	}
	return data
}

// Map: see proc.Memory.
func (m *memory) Map(space, page, pages, prot int) api.Errno {
	s := &m.spaces[space]
	l, err := area.Map(s.Areas, page, pages, prot)
	switch {
	case err != api.OK:
		return err
	case total(m.spaces)+pages > m.slots:
		return api.ErrRoom
	}
	s.Areas = l
	n, _ := place(s.Pages, page) // none of them was mapped, so that one place is all of theirs
	s.Pages = slices.Insert(s.Pages, n, zeros(page, pages)...)
	return api.OK
}

func zeros(page, pages int) []api.FlatPage {
	var l []api.FlatPage
	for n := range pages {
		l = append(l, api.FlatPage{Page: page + n, Data: strings.Repeat("\x00", api.PageSize)})
	}
	return l
}

// Unmap: see proc.Memory.
func (m *memory) Unmap(space, page, pages int) api.Errno {
	s := &m.spaces[space]
	l, err := area.Unmap(s.Areas, page, pages)
	if err != api.OK {
		return err
	}
	s.Areas = l
	s.Pages = slices.DeleteFunc(s.Pages, func(p api.FlatPage) bool { return p.Page >= page && p.Page < page+pages })
	return api.OK
}

// Protect: see proc.Memory.
func (m *memory) Protect(space, page, pages, prot int) api.Errno {
	l, err := area.Protect(m.spaces[space].Areas, page, pages, prot)
	if err != api.OK {
		return err
	}
	m.spaces[space].Areas = l
	return api.OK
}

// Fork: see proc.Memory.
func (m *memory) Fork(space int) api.Errno {
	s := m.spaces[space]
	switch {
	case len(m.spaces) >= api.MaxSpaces:
		return api.ErrMany
	case total(m.spaces)+area.Total(s.Areas) > m.slots:
		return api.ErrRoom
	}
	m.spaces = append(m.spaces, copyOf(s))
	return api.OK
}

// Drop: see proc.Memory.
func (m *memory) Drop(space int) { m.spaces[space] = api.FlatSpace{} }
