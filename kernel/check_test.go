package kernel_test

import (
	"math"
	"slices"
	"testing"

	"foliant/api"
	"foliant/kernel"
)

// sample: a kernel that no call has answered, with all that there may be: frames and slots that are shared, and of one space alone; of sheets, and of zeros; clean and dirty; some that none names; a space that is not Live.
func sample() api.Kernel {
	areas := append(program().Areas, api.Area{Page: 20, Pages: 2, Prot: 1, Zero: true})
	return api.Kernel{
		Sheets: program().Sheets,
		Frames: []api.Frame{
			{Data: filled(4), Refs: 2, Seen: true}, {Data: letters("!"), Refs: 1, Dirty: true}, {Data: zeros, Refs: 2}, {}, {Data: letters("?"), Refs: 1, Dirty: true, Seen: true},
		},
		Slots: append([]api.Slot{{Data: letters("+"), Refs: 2}, {}, {Data: zeros, Refs: 1}}, make([]api.Slot, 15)...),
		Spaces: []api.Space{
			{Live: true, Areas: slices.Clone(areas), Entries: []api.Entry{{Page: 3, Kind: api.Present, At: 1}, {Page: 4, Kind: api.Present, At: 0}, {Page: 5, Kind: api.Swapped, At: 0}, {Page: 20, Kind: api.Present, At: 2}}},
			{},
			{Live: true, Areas: slices.Clone(areas), Entries: []api.Entry{{Page: 3, Kind: api.Present, At: 4}, {Page: 4, Kind: api.Present, At: 0}, {Page: 5, Kind: api.Swapped, At: 0}, {Page: 20, Kind: api.Present, At: 2}, {Page: 21, Kind: api.Swapped, At: 2}}},
		},
		Hand: 4,
	}
}

type turn = func(k *api.Kernel)

// broken has each of E1's points broken by itself, and what is still right beside it.
var broken = []struct {
	name string
	turn turn
	want api.Errno
}{
	{"as it is", func(k *api.Kernel) {}, api.OK},
	{"nothing at all", func(k *api.Kernel) { *k = api.Kernel{} }, api.ErrMany},

	{"two frames", func(k *api.Kernel) { *k = alone(2, 7) }, api.ErrMany},
	{"three frames", func(k *api.Kernel) { *k = alone(3, 7) }, api.OK},
	{"64 frames", func(k *api.Kernel) { *k = alone(64, 7) }, api.OK},
	{"65 frames", func(k *api.Kernel) { *k = alone(65, 7) }, api.ErrMany},
	{"512 slots", func(k *api.Kernel) { *k = alone(3, 512) }, api.OK},
	{"513 slots", func(k *api.Kernel) { *k = alone(3, 513) }, api.ErrMany},
	{"very many slots", func(k *api.Kernel) { *k = alone(3, 100000) }, api.ErrMany},
	{"no slots, and nothing mapped", func(k *api.Kernel) { *k = alone(3, 0); k.Spaces[0].Areas = nil }, api.OK},
	{"no space", func(k *api.Kernel) { *k = alone(3, 7); k.Spaces = nil }, api.ErrMany},
	{"four spaces", func(k *api.Kernel) { k.Spaces = append(k.Spaces, api.Space{}) }, api.OK},
	{"five spaces", func(k *api.Kernel) { k.Spaces = append(k.Spaces, api.Space{}, api.Space{}) }, api.ErrMany},
	{"no space Live", func(k *api.Kernel) { *k = alone(3, 7); k.Spaces = make([]api.Space, 4) }, api.OK},
	{"no sheets, and none is asked for", func(k *api.Kernel) { *k = alone(3, 7); k.Spaces[0].Areas = nil; k.Sheets = nil }, api.OK},
	{"255 sheets", func(k *api.Kernel) { k.Sheets = sheets(255) }, api.OK},
	{"256 sheets", func(k *api.Kernel) { k.Sheets = sheets(256) }, api.ErrMany},
	{"256 sheets, Hand is none", func(k *api.Kernel) { k.Sheets = sheets(256); k.Hand = -1 }, api.ErrMany},
	{"two frames, and all else is wrong", func(k *api.Kernel) { k.Frames = k.Frames[:2]; k.Hand = 9; k.Sheets[0].Page = 0 }, api.ErrMany},

	{"1: a sheet of no page", func(k *api.Kernel) { k.Sheets[0].Page = 0 }, api.ErrForm},
	{"1: a sheet of page 256", func(k *api.Kernel) { k.Sheets = append(k.Sheets, api.Sheet{Page: 256, Data: zeros}) }, api.ErrForm},
	{"1: one sheet more", func(k *api.Kernel) { k.Sheets = append(k.Sheets, api.Sheet{Page: 255, Data: zeros}) }, api.OK},
	{"1: a sheet of too few bytes", func(k *api.Kernel) { k.Sheets[5].Data = "f" }, api.ErrForm},
	{"1: a sheet's fix behind the page", func(k *api.Kernel) { k.Sheets[6].Fixes = []api.Fix{{Off: 16, Bytes: "x"}} }, api.ErrForm},
	{"1: a sheet that is not asked for is not right", func(k *api.Kernel) {
		k.Sheets = append(k.Sheets, api.Sheet{Page: 9, Data: zeros, Fixes: []api.Fix{{}}})
	}, api.ErrForm},
	{"1: sheets that fall", func(k *api.Kernel) { k.Sheets[0], k.Sheets[1] = k.Sheets[1], k.Sheets[0] }, api.ErrForm},
	{"1: a sheet twice", func(k *api.Kernel) { k.Sheets = slices.Insert(k.Sheets, 1, k.Sheets[0]) }, api.ErrForm},
	{"1: Hand 0", func(k *api.Kernel) { k.Hand = 0 }, api.OK},
	{"1: Hand -1", func(k *api.Kernel) { k.Hand = -1 }, api.ErrForm},
	{"1: Hand behind the last frame", func(k *api.Kernel) { k.Hand = 5 }, api.ErrForm},
	{"1: the greatest Hand", func(k *api.Kernel) { k.Hand = math.MaxInt }, api.ErrForm},
	{"1: the least Hand", func(k *api.Kernel) { k.Hand = math.MinInt }, api.ErrForm},

	{"2: not Live, with areas", func(k *api.Kernel) {
		k.Spaces[1].Areas = []api.Area{{Page: 30, Pages: 1, Zero: true}}
		k.Slots = append(k.Slots, api.Slot{})
	}, api.ErrForm},
	{"2: not Live, with an area and an entry", func(k *api.Kernel) {
		k.Spaces[1] = api.Space{Areas: []api.Area{{Page: 3, Pages: 1}}, Entries: []api.Entry{{Page: 3, Kind: api.Present, At: 1}}}
		k.Frames[1].Refs = 2
		k.Slots = append(k.Slots, api.Slot{})
	}, api.ErrForm},
	{"2: Live, with these", func(k *api.Kernel) {
		k.Spaces[1] = api.Space{Live: true, Areas: []api.Area{{Page: 3, Pages: 1}}, Entries: []api.Entry{{Page: 3, Kind: api.Present, At: 1}}}
		k.Frames[1].Refs = 2
		k.Slots = append(k.Slots, api.Slot{})
	}, api.OK},
	{"2: not Live, with an entry", func(k *api.Kernel) {
		k.Spaces[1].Entries = []api.Entry{{Page: 3, Kind: api.Present, At: 1}}
		k.Frames[1].Refs = 2
	}, api.ErrForm},
	{"2: not Live, lists that are not nil", func(k *api.Kernel) { k.Spaces[1] = api.Space{Areas: []api.Area{}, Entries: []api.Entry{}} }, api.OK},
	{"2: Live, without areas", func(k *api.Kernel) { k.Spaces[1].Live = true }, api.OK},
	{"2: areas that fall", func(k *api.Kernel) {
		k.Spaces[0].Areas[0], k.Spaces[0].Areas[2] = k.Spaces[0].Areas[2], k.Spaces[0].Areas[0]
	}, api.ErrForm},
	{"2: neighbours alike", func(k *api.Kernel) {
		k.Spaces[0].Areas[4] = api.Area{Page: 20, Pages: 1, Zero: true}
		k.Spaces[0].Areas = append(k.Spaces[0].Areas, api.Area{Page: 21, Pages: 1, Zero: true})
	}, api.ErrForm},
	{"2: too many areas", func(k *api.Kernel) { k.Spaces[1] = api.Space{Live: true, Areas: make([]api.Area, 256)} }, api.ErrForm},
	{"2: entries that fall", func(k *api.Kernel) {
		e := k.Spaces[0].Entries
		e[0], e[1] = e[1], e[0]
	}, api.ErrForm},
	{"2: an entry twice", func(k *api.Kernel) {
		k.Spaces[0].Entries = slices.Insert(k.Spaces[0].Entries, 1, k.Spaces[0].Entries[0])
		k.Frames[1].Refs = 2
	}, api.ErrForm},
	{"2: an entry of another page", func(k *api.Kernel) { k.Spaces[0].Entries[0] = api.Entry{Page: 1, Kind: api.Present, At: 1} }, api.OK},
	{"2: an entry of page 0", func(k *api.Kernel) { k.Spaces[0].Entries[0].Page = 0 }, api.ErrForm},
	{"2: an entry of page 7", func(k *api.Kernel) {
		k.Spaces[0].Entries = slices.Insert(k.Spaces[0].Entries, 3, api.Entry{Page: 7, Kind: api.Present, At: 3})
		k.Frames[3] = api.Frame{Data: zeros, Refs: 1, Dirty: true}
	}, api.ErrForm},
	{"2: a last entry that is not mapped, and not counted", func(k *api.Kernel) {
		k.Spaces[2].Entries = append(k.Spaces[2].Entries, api.Entry{Page: 22, Kind: api.Present, At: 3})
	}, api.ErrForm},
	{"2: a last entry of no Kind", func(k *api.Kernel) {
		k.Spaces[0].Entries = append(k.Spaces[0].Entries, api.Entry{Page: 21, At: 3})
	}, api.ErrForm},
	{"2: a last entry of no Kind, of the last space", func(k *api.Kernel) {
		drop(k, 2, 4)
		k.Spaces[2].Entries = append(k.Spaces[2].Entries, api.Entry{Page: 21, Kind: 3, At: 3})
	}, api.ErrForm},
	{"2: an entry of page 256", func(k *api.Kernel) { k.Spaces[0].Entries[3].Page = 256 }, api.ErrForm},
	{"2: an entry of the greatest page", func(k *api.Kernel) { k.Spaces[0].Entries[3].Page = math.MaxInt }, api.ErrForm},
	{"2: an entry of the least page", func(k *api.Kernel) { k.Spaces[0].Entries[0].Page = math.MinInt }, api.ErrForm},
	{"2: very many entries", func(k *api.Kernel) { k.Spaces[0].Entries = make([]api.Entry, 100000) }, api.ErrForm},
	{"2: Kind 0", func(k *api.Kernel) { drop(k, 0, 0); add(k, 0, api.Entry{Page: 3}) }, api.ErrForm},
	{"2: Kind 3", func(k *api.Kernel) { drop(k, 0, 0); add(k, 0, api.Entry{Page: 3, Kind: 3}) }, api.ErrForm},
	{"2: Kind -1", func(k *api.Kernel) { drop(k, 0, 0); add(k, 0, api.Entry{Page: 3, Kind: -1}) }, api.ErrForm},
	{"2: At behind the frames", func(k *api.Kernel) { drop(k, 0, 0); add(k, 0, api.Entry{Page: 3, Kind: api.Present, At: 5}) }, api.ErrForm},
	{"2: At a frame below 0", func(k *api.Kernel) { drop(k, 0, 0); add(k, 0, api.Entry{Page: 3, Kind: api.Present, At: -1}) }, api.ErrForm},
	{"2: At the least frame", func(k *api.Kernel) { drop(k, 0, 0); add(k, 0, api.Entry{Page: 3, Kind: api.Present, At: math.MinInt}) }, api.ErrForm},
	{"2: At behind the slots", func(k *api.Kernel) { drop(k, 0, 0); add(k, 0, api.Entry{Page: 3, Kind: api.Swapped, At: 18}) }, api.ErrForm},
	{"2: At a slot below 0", func(k *api.Kernel) { drop(k, 0, 0); add(k, 0, api.Entry{Page: 3, Kind: api.Swapped, At: -1}) }, api.ErrForm},
	{"2: At the greatest slot", func(k *api.Kernel) { drop(k, 0, 0); add(k, 0, api.Entry{Page: 3, Kind: api.Swapped, At: math.MaxInt}) }, api.ErrForm},
	{"2: At the last slot", func(k *api.Kernel) {
		drop(k, 0, 0)
		add(k, 0, api.Entry{Page: 3, Kind: api.Swapped, At: 17})
		k.Slots[17] = api.Slot{Data: zeros, Refs: 1}
	}, api.OK},
	{"2: a page without a sheet", func(k *api.Kernel) { k.Sheets = slices.Delete(k.Sheets, 5, 6) }, api.ErrForm},
	{"2: the first page without a sheet", func(k *api.Kernel) { k.Sheets = k.Sheets[1:] }, api.ErrForm},
	{"2: the last page without a sheet", func(k *api.Kernel) { k.Sheets = k.Sheets[:6] }, api.ErrForm},
	{"2: a page of zeros that has a sheet too", func(k *api.Kernel) { k.Sheets = append(k.Sheets, api.Sheet{Page: 20, Data: letters("x")}) }, api.OK},

	{"3: a slot too few", func(k *api.Kernel) { k.Slots = k.Slots[:17] }, api.ErrForm},
	{"3: a page too many", func(k *api.Kernel) {
		k.Spaces[1] = api.Space{Live: true, Areas: []api.Area{{Page: 9, Pages: 1, Zero: true}}}
	}, api.ErrForm},
	{"3: a slot more, and that page", func(k *api.Kernel) {
		k.Spaces[1] = api.Space{Live: true, Areas: []api.Area{{Page: 9, Pages: 1, Zero: true}}}
		k.Slots = append(k.Slots, api.Slot{})
	}, api.OK},

	{"4: Refs one more", func(k *api.Kernel) { k.Frames[1].Refs = 2 }, api.ErrForm},
	{"4: Refs one fewer", func(k *api.Kernel) { k.Frames[0].Refs = 1 }, api.ErrForm},
	{"4: Refs 0", func(k *api.Kernel) { k.Frames[1].Refs = 0 }, api.ErrForm},
	{"4: Refs below 0", func(k *api.Kernel) { k.Frames[1].Refs = -1 }, api.ErrForm},
	{"4: one entry fewer", func(k *api.Kernel) { k.Spaces[2].Entries = slices.Delete(k.Spaces[2].Entries, 1, 2) }, api.ErrForm},
	{"4: none names it, Refs", func(k *api.Kernel) { k.Frames[3].Refs = 1 }, api.ErrForm},
	{"4: none names it, Data", func(k *api.Kernel) { k.Frames[3].Data = zeros }, api.ErrForm},
	{"4: none names it, one byte of Data", func(k *api.Kernel) { k.Frames[3].Data = "\x00" }, api.ErrForm},
	{"4: none names it, Dirty", func(k *api.Kernel) { k.Frames[3].Dirty = true }, api.ErrForm},
	{"4: none names it, Seen", func(k *api.Kernel) { k.Frames[3].Seen = true }, api.ErrForm},
	{"4: none names it any more", func(k *api.Kernel) { k.Spaces[0].Entries = k.Spaces[0].Entries[1:]; k.Frames[1].Refs = 0 }, api.ErrForm},
	{"4: no Data", func(k *api.Kernel) { k.Frames[1].Data = "" }, api.ErrForm},
	{"4: a byte too few", func(k *api.Kernel) { k.Frames[1].Data = zeros[1:] }, api.ErrForm},
	{"4: a byte too many", func(k *api.Kernel) { k.Frames[1].Data = zeros + "\x00" }, api.ErrForm},
	{"4: Dirty, and yet what it is filled with", func(k *api.Kernel) { k.Frames[1].Data = filled(3) }, api.OK},
	{"4: clean, and what it is filled with", func(k *api.Kernel) { k.Frames[1] = api.Frame{Data: filled(3), Refs: 1} }, api.OK},
	{"4: clean, but not what it is filled with", func(k *api.Kernel) { k.Frames[1].Dirty = false }, api.ErrForm},
	{"4: clean, its fixes not laid", func(k *api.Kernel) { k.Frames[0].Data = letters("d") }, api.ErrForm},
	{"4: clean, what another page is filled with", func(k *api.Kernel) { k.Frames[0].Data = filled(5) }, api.ErrForm},
	{"4: clean, zeros where there is a sheet", func(k *api.Kernel) { k.Frames[0].Data = zeros }, api.ErrForm},
	{"4: clean, no zeros where there is none", func(k *api.Kernel) { k.Frames[2].Data = letters("x") }, api.ErrForm},
	{"4: clean, a sheet's bytes in an area that is Zero", func(k *api.Kernel) {
		k.Sheets = append(k.Sheets, api.Sheet{Page: 20, Data: letters("x")})
		k.Frames[2].Data = letters("x")
	}, api.ErrForm},
	{"4: shared, and Dirty", func(k *api.Kernel) { k.Frames[2] = api.Frame{Data: letters("x"), Refs: 2, Dirty: true, Seen: true} }, api.OK},
	{"4: two pages of one space", func(k *api.Kernel) {
		drop(k, 0, 0)
		add(k, 0, api.Entry{Page: 3, Kind: api.Present, At: 0})
		k.Frames[0] = api.Frame{Data: zeros, Refs: 3, Dirty: true}
	}, api.ErrForm},
	{"4: two pages of two spaces", func(k *api.Kernel) {
		drop(k, 2, 0)
		add(k, 2, api.Entry{Page: 2, Kind: api.Present, At: 1})
		k.Frames[1].Refs = 2
	}, api.ErrForm},
	{"4: two pages, one of them not counted", func(k *api.Kernel) {
		drop(k, 2, 4)
		k.Spaces[2].Entries = append(k.Spaces[2].Entries, api.Entry{Page: 21, Kind: api.Present, At: 1})
	}, api.ErrForm},
	{"4: a page of zeros and one with a sheet", func(k *api.Kernel) {
		k.Sheets = append(k.Sheets, api.Sheet{Page: 20, Data: zeros}, api.Sheet{Page: 21, Data: zeros})
		k.Spaces[0].Areas[4].Zero = false
	}, api.ErrForm},
	{"4: the same, Dirty", func(k *api.Kernel) {
		k.Sheets = append(k.Sheets, api.Sheet{Page: 20, Data: zeros}, api.Sheet{Page: 21, Data: zeros})
		k.Spaces[0].Areas[4].Zero = false
		k.Frames[2].Dirty = true
	}, api.ErrForm},
	{"4: both with a sheet", func(k *api.Kernel) {
		k.Sheets = append(k.Sheets, api.Sheet{Page: 20, Data: zeros}, api.Sheet{Page: 21, Data: zeros})
		k.Spaces[0].Areas[4].Zero, k.Spaces[2].Areas[4].Zero = false, false
	}, api.OK},
	{"4: areas of other rights", func(k *api.Kernel) { k.Spaces[0].Areas[1].Prot = 0; k.Spaces[0].Areas[2].Prot = 3 }, api.OK},

	{"5: Refs one more", func(k *api.Kernel) { k.Slots[2].Refs = 2 }, api.ErrForm},
	{"5: Refs one fewer", func(k *api.Kernel) { k.Slots[0].Refs = 1 }, api.ErrForm},
	{"5: Refs 0", func(k *api.Kernel) { k.Slots[2].Refs = 0 }, api.ErrForm},
	{"5: Refs below 0", func(k *api.Kernel) { k.Slots[2].Refs = -1 }, api.ErrForm},
	{"5: none names it, Refs", func(k *api.Kernel) { k.Slots[1].Refs = 1 }, api.ErrForm},
	{"5: none names it, Data", func(k *api.Kernel) { k.Slots[17].Data = zeros }, api.ErrForm},
	{"5: none names it any more", func(k *api.Kernel) { drop(k, 2, 4); k.Slots[2] = api.Slot{Data: zeros} }, api.ErrForm},
	{"5: no Data", func(k *api.Kernel) { k.Slots[2].Data = "" }, api.ErrForm},
	{"5: a byte too few", func(k *api.Kernel) { k.Slots[2].Data = zeros[1:] }, api.ErrForm},
	{"5: a byte too many", func(k *api.Kernel) { k.Slots[2].Data = zeros + "\x00" }, api.ErrForm},
	{"5: any Data", func(k *api.Kernel) { k.Slots[2].Data = letters("\xff") }, api.OK},
	{"5: two pages", func(k *api.Kernel) {
		drop(k, 0, 0)
		add(k, 0, api.Entry{Page: 3, Kind: api.Swapped, At: 0})
		k.Slots[0].Refs = 3
	}, api.ErrForm},
	{"5: a page of zeros and one with a sheet", func(k *api.Kernel) {
		k.Sheets = append(k.Sheets, api.Sheet{Page: 21, Data: zeros})
		k.Spaces[0].Areas[4] = api.Area{Page: 20, Pages: 1, Prot: 1, Zero: true}
		k.Spaces[0].Areas = append(k.Spaces[0].Areas, api.Area{Page: 21, Pages: 1, Prot: 1})
		k.Spaces[0].Entries = append(k.Spaces[0].Entries, api.Entry{Page: 21, Kind: api.Swapped, At: 2})
		k.Slots[2].Refs = 2
	}, api.ErrForm},
	{"5: both of zeros", func(k *api.Kernel) {
		k.Spaces[0].Entries = append(k.Spaces[0].Entries, api.Entry{Page: 21, Kind: api.Swapped, At: 2})
		k.Slots[2].Refs = 2
	}, api.OK},
	{"a frame and a slot of one number are two things", func(k *api.Kernel) {
		drop(k, 0, 0)
		add(k, 0, api.Entry{Page: 3, Kind: api.Present, At: 3})
		k.Frames[3] = api.Frame{Data: filled(3), Refs: 1}
	}, api.OK},
}

// drop takes away entry n of the space, so that what it named is counted as before without it.
func drop(k *api.Kernel, space, n int) {
	e := k.Spaces[space].Entries[n]
	k.Spaces[space].Entries = slices.Delete(k.Spaces[space].Entries, n, n+1)
	if e.Kind == api.Present {
		if k.Frames[e.At].Refs--; k.Frames[e.At].Refs == 0 {
			k.Frames[e.At] = api.Frame{}
		}
		return
	}
	if k.Slots[e.At].Refs--; k.Slots[e.At].Refs == 0 {
		k.Slots[e.At] = api.Slot{}
	}
}

// add puts the entry ahead of all others of the space.
func add(k *api.Kernel, space int, e api.Entry) {
	k.Spaces[space].Entries = slices.Insert(k.Spaces[space].Entries, 0, e)
}

func alone(frames, slots int) api.Kernel {
	return made(make([]api.Frame, frames), nil, slots, 0, nil)
}

// sheets: the program's, and one for each other page, up to n.
func sheets(n int) []api.Sheet {
	var l []api.Sheet
	for page := 1; page <= n; page++ {
		s := api.Sheet{Page: page, Data: zeros}
		if k := slices.IndexFunc(program().Sheets, func(s api.Sheet) bool { return s.Page == page }); k >= 0 {
			s = program().Sheets[k]
		}
		l = append(l, s)
	}
	return l
}

// E1
func TestCheck(t *testing.T) {
	for _, c := range broken {
		k := sample()
		c.turn(&k)
		if err := kernel.Check(k); err != c.want {
			t.Errorf("%s: %d, must be %d", c.name, err, c.want)
		}
	}
}

// E1, P1: all calls tell Check's error first, whatever else is wrong; nothing else comes with it.
func TestCheckIsToldFirst(t *testing.T) {
	for _, c := range broken {
		if c.want == api.OK {
			continue
		}
		for _, call := range calls {
			for _, space := range []int{0, 1, 2, 9, -1} {
				for _, good := range []bool{true, false} {
					k := sample()
					c.turn(&k)
					if a := call.do(k, space, good); !a.same(answer{err: c.want}) {
						t.Errorf("%s, %s, space %d: %v, must be %d alone", call.name, c.name, space, a, c.want)
					}
				}
			}
		}
	}
}

// E1, P1: then ErrNone, whatever else is wrong.
func TestNoSuchSpace(t *testing.T) {
	for _, call := range calls {
		for _, space := range append([]int{1, 3, 4, 5}, edges...) {
			for _, good := range []bool{true, false} {
				if a := call.do(sample(), space, good); !a.same(answer{err: api.ErrNone}) {
					t.Errorf("%s, space %d: %v, must be ErrNone alone", call.name, space, a)
				}
			}
		}
	}
	full := sample()
	full.Spaces = append(full.Spaces, api.Space{})
	if _, _, err := kernel.Fork(full, 3); err != api.ErrNone {
		t.Errorf("Fork of a space that is not Live, of four: %d", err)
	}
	if _, _, err := kernel.Fork(full, 4); err != api.ErrNone {
		t.Errorf("Fork of a space that is not there, of four: %d", err)
	}
}

// E2: the kernel that comes, whole.
func TestNew(t *testing.T) {
	for _, n := range [][2]int{{3, 7}, {3, 8}, {64, 512}, {64, 7}, {5, 100}} {
		k, err := kernel.New(program(), n[0], n[1])
		if err != api.OK {
			t.Fatalf("New of %d: %d", n, err)
		}
		is(t, k, alone(n[0], n[1]))
	}
}

// E2, P1: each error, ahead of all that stand behind it.
func TestErrorsOfNew(t *testing.T) {
	odd, many := program(), program()
	odd.Entry = 3
	many.Areas = make([]api.Area, 256)
	for _, c := range []struct {
		l             api.Linked
		frames, slots int
		want          api.Errno
	}{
		{odd, 3, 7, api.ErrForm}, {odd, 2, 7, api.ErrForm}, {odd, 65, -1, api.ErrForm}, {many, 3, 7, api.ErrMany}, {many, 2, 513, api.ErrMany}, {api.Linked{}, 3, 7, api.ErrForm},
		{program(), 2, 7, api.ErrSmall}, {program(), 0, 7, api.ErrSmall}, {program(), -1, 7, api.ErrSmall}, {program(), math.MinInt, 7, api.ErrSmall},
		{program(), 2, 513, api.ErrSmall}, {program(), 2, -1, api.ErrSmall}, {program(), 2, 6, api.ErrSmall}, {program(), math.MinInt, math.MinInt, api.ErrSmall},
		{program(), 65, 7, api.ErrRange}, {program(), math.MaxInt, 7, api.ErrRange}, {program(), 65, 6, api.ErrRange}, {program(), 65, 513, api.ErrRange},
		{program(), 3, 513, api.ErrRange}, {program(), 3, math.MaxInt, api.ErrRange}, {program(), 3, -1, api.ErrRange}, {program(), 64, math.MinInt, api.ErrRange},
		{program(), 3, 6, api.ErrRoom}, {program(), 64, 0, api.ErrRoom}, {program(), 3, 0, api.ErrRoom},
	} {
		k, err := kernel.New(c.l, c.frames, c.slots)
		if err != c.want || !equal(k, api.Kernel{}) {
			t.Errorf("New of %d, %d: %d, must be %d, without a kernel", c.frames, c.slots, err, c.want)
		}
	}
}
