package kernel

import (
	"slices"

	"foliant/api"
	"foliant/area"
	"foliant/bits"
	"foliant/fault"
)

const maxSize = 8 // bytes that are reached for at once: never in more than two pages

// reach: the frames of the pages that have these bytes, in order; none, with a fault.
func (m *memory) reach(space, addr, size, way int) ([]int, api.Fault) {
	if f := fault.Of(m.Spaces[space].Areas, addr, size, way); f.Kind != api.NoFault {
		return nil, f
	}
	var frames []int
	for page := addr / api.PageSize; page <= (addr+size-1)/api.PageSize; page++ {
		// What was brought is held: it must still be there when all is.
		frames = append(frames, m.bring(space, page, way, frames))
	}
	return frames, api.Fault{}
}

// bring: the frame in which the page is now.
func (m *memory) bring(space, page, way int, held []int) int {
	at := m.present(space, page, held)
	if way == api.ToWrite {
		at = m.alone(space, page, at, held)
		m.Frames[at].Dirty = true
	}
	m.Frames[at].Seen = true
	return at
}

// present: the frame of the page, which is filled, or comes from its slot, if it has none.
func (m *memory) present(space, page int, held []int) int {
	e, ok := m.entry(space, page)
	if ok && e.Kind == api.Present {
		return e.At
	}
	at := m.get(held)
	if ok {
		m.Frames[at] = api.Frame{Data: m.Slots[e.At].Data, Refs: 1, Dirty: true}
		m.count(e, -1)
	} else {
		a, _ := area.Find(m.Spaces[space].Areas, page) // without a fault it is mapped
		m.Frames[at] = api.Frame{Data: m.fill(page, a.Zero), Refs: 1}
	}
	m.enter(space, api.Entry{Page: page, Kind: api.Present, At: at})
	return at
}

// alone: a frame of the page that no other space has: its own, or one more of the same bytes.
func (m *memory) alone(space, page, at int, held []int) int {
	if m.Frames[at].Refs == 1 {
		return at
	}
	to := m.get(append(slices.Clone(held), at))
	m.Frames[to] = api.Frame{Data: m.Frames[at].Data, Refs: 1, Dirty: true}
	m.Frames[at].Refs--
	m.enter(space, api.Entry{Page: page, Kind: api.Present, At: to})
	return to
}

// get: a frame that none names, of zeros in all fields; it ends, as at most two are held, and there are MinFrames at least.
func (m *memory) get(held []int) int {
	if free := slices.IndexFunc(m.Frames, isZero); free >= 0 {
		return free
	}
	for m.passed(m.Hand, held) {
		m.moveHand()
	}
	at := m.Hand
	m.putAside(at)
	m.moveHand()
	return at
}

// passed: if the hand goes on from the frame; it is Seen no more then.
func (m *memory) passed(at int, held []int) bool {
	if slices.Contains(held, at) {
		return true
	}
	seen := m.Frames[at].Seen
	m.Frames[at].Seen = false
	return seen
}

func (m *memory) moveHand() { m.Hand = (m.Hand + 1) % len(m.Frames) }

// putAside: all who share the frame share the slot, or have no entry any more.
func (m *memory) putAside(at int) {
	f := m.Frames[at]
	here := func(e api.Entry) bool { return e.Kind == api.Present && e.At == at }
	if !f.Dirty {
		for space := range m.Spaces {
			m.forget(space, here)
		}
		return
	}
	// There is one: no more pages are mapped than there are slots, and those in this frame have none.
	slot := slices.IndexFunc(m.Slots, func(s api.Slot) bool { return s == api.Slot{} })
	m.Slots[slot] = api.Slot{Data: f.Data, Refs: f.Refs}
	m.Frames[at] = api.Frame{}
	for _, s := range m.Spaces {
		if n := slices.IndexFunc(s.Entries, here); n >= 0 {
			s.Entries[n].Kind, s.Entries[n].At = api.Swapped, slot
		}
	}
}

// join: the bytes of these frames, one behind the other.
func (m *memory) join(frames []int) string {
	data := ""
	for _, at := range frames {
		data += m.Frames[at].Data
	}
	return data
}

// part: each of these frames has its page of the bytes.
func (m *memory) part(frames []int, data string) {
	for n, at := range frames {
		m.Frames[at].Data, _ = bits.Part(data, n*api.PageSize, api.PageSize) // as many pages as frames
	}
}
