package kernel_test

import (
	"math"
	"slices"
	"testing"

	"foliant/api"
	"foliant/kernel"
)

// Reach, Load and Store are asked alike: an address, a size and a way; Load and Store only in the ways that they have.
func ask(k api.Kernel, space, addr, size, way int) []answer {
	n, f, err := kernel.Reach(k, space, addr, size, way)
	l := []answer{{k: n, f: f, err: err}}
	if way != api.ToWrite {
		n, s, f, err := kernel.Load(k, space, addr, size, way)
		l = append(l, answer{k: n, s: s, f: f, err: err})
	} else if size >= 0 && size < 100 {
		n, f, err := kernel.Store(k, space, addr, zeros[:min(size, 16)])
		l = append(l, answer{k: n, f: f, err: err})
	}
	return l
}

// E4, E5, P1: sizes and ways that are none; the size is told first, and both ahead of a fault.
func TestErrorsOfReach(t *testing.T) {
	k := begin(t, 3, 7)
	for _, addr := range []int{16, 48, 49, 0, -1, math.MaxInt, math.MinInt} {
		for _, size := range append([]int{0, 9, 10, 16, 17}, edges...) {
			for _, way := range []int{api.ToRead, api.ToWrite, api.ToRun, 3, -1, math.MaxInt, math.MinInt} {
				for n, a := range ask(k, 0, addr, size, way) {
					if !a.same(answer{err: api.ErrRange}) {
						t.Errorf("%d: at %d, size %d, way %d: %v, must be ErrRange alone", n, addr, size, way, a)
					}
				}
			}
		}
		for size := 1; size <= 8; size++ {
			for _, way := range []int{3, -1, 4, math.MaxInt, math.MinInt} {
				for n, a := range ask(k, 0, addr, size, way) {
					if !a.same(answer{err: api.ErrKind}) {
						t.Errorf("%d: at %d, size %d, way %d: %v, must be ErrKind alone", n, addr, size, way, a)
					}
				}
			}
			n, s, f, err := kernel.Load(k, 0, addr, size, api.ToWrite)
			if a := (answer{k: n, s: s, f: f, err: err}); !a.same(answer{err: api.ErrKind}) {
				t.Errorf("Load to write at %d: %v, must be ErrKind alone", addr, a)
			}
		}
		for _, size := range []int{0, 9, -1} {
			if _, _, _, err := kernel.Load(k, 0, addr, size, api.ToWrite); err != api.ErrRange {
				t.Errorf("Load to write of %d bytes: %d", size, err)
			}
		}
	}
}

// E4: no kernel comes with a fault, and no error. (Pages 1 and 2 are to run, 3 to 5 to write, 6 to read, 7 is not mapped, 8 to run and to write.)
func TestFaults(t *testing.T) {
	const read, write, run = api.ToRead, api.ToWrite, api.ToRun
	k := begin(t, 3, 7)
	for _, c := range []struct {
		addr, size, way int
		want            api.Fault
	}{
		{0, 1, read, api.Fault{Kind: api.FaultMap, Addr: 0}},
		{15, 1, read, api.Fault{Kind: api.FaultMap, Addr: 15}},
		{15, 2, read, api.Fault{Kind: api.FaultMap, Addr: 15}},
		{9, 8, write, api.Fault{Kind: api.FaultMap, Addr: 9}},
		{8, 8, run, api.Fault{Kind: api.FaultMap, Addr: 8}},
		{-1, 1, read, api.Fault{Kind: api.FaultMap, Addr: -1}},
		{-1, 8, write, api.Fault{Kind: api.FaultMap, Addr: -1}},
		{-15, 8, read, api.Fault{Kind: api.FaultMap, Addr: -15}},
		{-16, 8, run, api.Fault{Kind: api.FaultMap, Addr: -16}},
		{-112, 1, read, api.Fault{Kind: api.FaultMap, Addr: -112}},
		{math.MinInt, 8, read, api.Fault{Kind: api.FaultMap, Addr: math.MinInt}},
		{math.MinInt, 8, run, api.Fault{Kind: api.FaultMap, Addr: math.MinInt}},
		{math.MinInt + 3, 8, write, api.Fault{Kind: api.FaultMap, Addr: math.MinInt + 3}},
		{math.MaxInt, 1, read, api.Fault{Kind: api.FaultMap, Addr: math.MaxInt}},
		{math.MaxInt, 8, read, api.Fault{Kind: api.FaultMap, Addr: math.MaxInt}},
		{math.MaxInt - 6, 8, write, api.Fault{Kind: api.FaultMap, Addr: math.MaxInt - 6}},
		{math.MaxInt - 7, 8, run, api.Fault{Kind: api.FaultMap, Addr: math.MaxInt - 7}},
		{112, 1, read, api.Fault{Kind: api.FaultMap, Addr: 112}},
		{105, 8, read, api.Fault{Kind: api.FaultMap, Addr: 112}},
		{111, 2, read, api.Fault{Kind: api.FaultMap, Addr: 112}},
		{127, 8, write, api.Fault{Kind: api.FaultMap, Addr: 127}},
		{140, 8, read, api.Fault{Kind: api.FaultMap, Addr: 144}},
		{143, 2, write, api.Fault{Kind: api.FaultMap, Addr: 144}},
		{4080, 8, read, api.Fault{Kind: api.FaultMap, Addr: 4080}},
		{4096, 8, run, api.Fault{Kind: api.FaultMap, Addr: 4096}},

		{16, 1, write, api.Fault{Kind: api.FaultRight, Addr: 16}},
		{47, 2, write, api.Fault{Kind: api.FaultRight, Addr: 47}},
		{41, 8, write, api.Fault{Kind: api.FaultRight, Addr: 41}},
		{89, 8, write, api.Fault{Kind: api.FaultRight, Addr: 96}},
		{95, 2, write, api.Fault{Kind: api.FaultRight, Addr: 96}},
		{96, 8, write, api.Fault{Kind: api.FaultRight, Addr: 96}},
		{107, 8, write, api.Fault{Kind: api.FaultRight, Addr: 107}},
		{48, 8, run, api.Fault{Kind: api.FaultRight, Addr: 48}},
		{96, 1, run, api.Fault{Kind: api.FaultRight, Addr: 96}},

		{17, 8, run, api.Fault{Kind: api.FaultAlign, Addr: 17}},
		{23, 1, run, api.Fault{Kind: api.FaultAlign, Addr: 23}},
		{20, 4, run, api.Fault{Kind: api.FaultAlign, Addr: 20}},
		{49, 8, run, api.Fault{Kind: api.FaultAlign, Addr: 49}},
		{1, 8, run, api.Fault{Kind: api.FaultAlign, Addr: 1}},
		{113, 8, run, api.Fault{Kind: api.FaultAlign, Addr: 113}},
		{-1, 8, run, api.Fault{Kind: api.FaultAlign, Addr: -1}},
		{-9, 8, run, api.Fault{Kind: api.FaultAlign, Addr: -9}},
		{math.MaxInt, 8, run, api.Fault{Kind: api.FaultAlign, Addr: math.MaxInt}},
		{math.MinInt + 1, 1, run, api.Fault{Kind: api.FaultAlign, Addr: math.MinInt + 1}},
	} {
		for n, a := range ask(k, 0, c.addr, c.size, c.way) {
			if !a.same(answer{f: c.want}) {
				t.Errorf("%d: at %d, size %d, way %d: %v, must be %v alone", n, c.addr, c.size, c.way, a, c.want)
			}
		}
	}
}

// E4: a page may be mapped up to the last one, with nothing behind it.
func TestFaultsAtTheLastPage(t *testing.T) {
	k, err := kernel.Map(begin(t, 3, 9), 0, 255, 1, api.Write)
	if err != api.OK {
		t.Fatal(err)
	}
	k = store(t, k, 0, 4088, "lastpage")
	if _, s := load(t, k, 0, 4095, 1); s != "e" {
		t.Errorf("the last byte is %q", s)
	}
	for _, way := range []int{api.ToRead, api.ToWrite} {
		for _, a := range ask(k, 0, 4089, 8, way) {
			if !a.same(answer{f: api.Fault{Kind: api.FaultMap, Addr: 4096}}) {
				t.Errorf("over the last page: %v", a)
			}
		}
	}
}

// E4, E5: what is to be run needs no right to write, and so on; sizes 1 to 8 at each place.
func TestLoadBytes(t *testing.T) {
	text := zeros
	for n := 1; n <= 6; n++ {
		text += filled(n)
	}
	text += zeros + filled(8)
	k := begin(t, 3, 7)
	for addr := 16; addr < 144; addr++ {
		for size := 1; size <= 8; size++ {
			if addr+size > 112 && addr < 128 || addr+size > 144 {
				continue
			}
			n, s := load(t, k, 0, addr, size)
			if s != text[addr:addr+size] {
				t.Fatalf("%d bytes at %d: %q, must be %q", size, addr, s, text[addr:addr+size])
			}
			if r, f, err := kernel.Reach(k, 0, addr, size, api.ToRead); !equal(r, n) || f != (api.Fault{}) || err != api.OK {
				t.Fatalf("Load and Reach answer two kernels")
			}
			k = n
		}
	}
	for _, addr := range []int{16, 24, 32, 40, 128, 136} {
		for size := 1; size <= 8; size++ {
			n, s, f, err := kernel.Load(k, 0, addr, size, api.ToRun)
			if s != text[addr:addr+size] || f != (api.Fault{}) || err != api.OK {
				t.Fatalf("to run, %d bytes at %d: %q %v %d", size, addr, s, f, err)
			}
			k = n
		}
	}
}

// E5: what was stored is loaded, and all else is as it was: each size at each place, over a page's end too.
func TestStoreBytes(t *testing.T) {
	text := []byte(filled(3) + filled(4) + filled(5))
	k := begin(t, 3, 7)
	for addr := 48; addr < 96; addr++ {
		for size := 1; size <= 8 && addr+size <= 96; size++ {
			s := "12345678abcdefgh"[addr%9:][:size]
			k = store(t, k, 0, addr, s)
			copy(text[addr-48:], s)
			for n := range 3 {
				peek(t, k, 0, 3+n, string(text[16*n:16*n+16]))
			}
			if n, got := load(t, k, 0, addr, size); got != s {
				t.Fatalf("%d bytes at %d: %q, must be %q", size, addr, got, s)
			} else {
				k = n
			}
		}
	}
	for _, n := range []int{1, 2, 6, 8} {
		peek(t, k, 0, n, filled(n))
	}
}

// entries: Present ones of these pages, in frames 0, 1 and so on.
func entries(pages ...int) []api.Entry {
	var l []api.Entry
	for n, page := range pages {
		l = append(l, api.Entry{Page: page, Kind: api.Present, At: n})
	}
	return l
}

// clean: a frame as it is filled, not Seen.
func clean(page, refs int) api.Frame { return api.Frame{Data: filled(page), Refs: refs} }

func seen(f api.Frame) api.Frame {
	f.Seen = true
	return f
}

func dirty(f api.Frame, data string) api.Frame {
	f.Dirty, f.Data = true, data
	return f
}

func reach(t *testing.T, k api.Kernel, space, addr, size, way int) api.Kernel {
	t.Helper()
	right(t, k)
	n, f, err := kernel.Reach(k, space, addr, size, way)
	if f != (api.Fault{}) || err != api.OK {
		t.Fatalf("Reach of %d: %v %d", addr, f, err)
	}
	return n
}

// E4, point 1: pages come into frames that none names, the lowest one first; the hand stays.
func TestPagesComeOneByOne(t *testing.T) {
	k := reach(t, begin(t, 5, 7), 0, 100, 4, api.ToRead)
	is(t, k, made([]api.Frame{seen(clean(6, 1)), {}, {}, {}, {}}, nil, 7, 0, entries(6)))
	k = reach(t, k, 0, 16, 8, api.ToRun)
	is(t, k, made([]api.Frame{seen(clean(6, 1)), seen(clean(1, 1)), {}, {}, {}}, nil, 7, 0, []api.Entry{{Page: 1, Kind: 1, At: 1}, {Page: 6, Kind: 1, At: 0}}))
	k = reach(t, k, 0, 63, 2, api.ToWrite)
	is(t, k, made([]api.Frame{seen(clean(6, 1)), seen(clean(1, 1)), seen(dirty(clean(3, 1), filled(3))), seen(dirty(clean(4, 1), filled(4))), {}}, nil, 7, 0,
		[]api.Entry{{Page: 1, Kind: 1, At: 1}, {Page: 3, Kind: 1, At: 2}, {Page: 4, Kind: 1, At: 3}, {Page: 6, Kind: 1, At: 0}}))
	again := reach(t, k, 0, 63, 2, api.ToRead)
	is(t, again, k)
}

// E3: of several frames that none names it is the lowest one, wherever the hand is.
func TestTheLowestFrameThatNoneNames(t *testing.T) {
	k := made([]api.Frame{clean(1, 1), {}, clean(3, 1), {}}, nil, 7, 3, []api.Entry{{Page: 1, Kind: 1, At: 0}, {Page: 3, Kind: 1, At: 2}})
	is(t, reach(t, k, 0, 32, 1, api.ToRead), made([]api.Frame{clean(1, 1), seen(clean(2, 1)), clean(3, 1), {}}, nil, 7, 3, []api.Entry{{Page: 1, Kind: 1, At: 0}, {Page: 2, Kind: 1, At: 1}, {Page: 3, Kind: 1, At: 2}}))
}

// E4, point 3: a page that is there is Seen; to write, Dirty; nothing else changes.
func TestPagesThatAreThere(t *testing.T) {
	k := made([]api.Frame{clean(3, 1), clean(4, 1), clean(1, 1)}, nil, 7, 1, []api.Entry{{Page: 1, Kind: 1, At: 2}, {Page: 3, Kind: 1, At: 0}, {Page: 4, Kind: 1, At: 1}})
	want := func(a, b api.Frame) api.Kernel {
		return made([]api.Frame{a, b, clean(1, 1)}, nil, 7, 1, k.Spaces[0].Entries)
	}
	is(t, reach(t, k, 0, 48, 8, api.ToRead), want(seen(clean(3, 1)), clean(4, 1)))
	is(t, reach(t, k, 0, 57, 8, api.ToRead), want(seen(clean(3, 1)), seen(clean(4, 1))))
	is(t, reach(t, k, 0, 64, 1, api.ToWrite), want(clean(3, 1), seen(dirty(clean(4, 1), filled(4)))))
	is(t, store(t, k, 0, 62, "stored"), want(seen(dirty(clean(3, 1), "ccccccccccccccst")), seen(dirty(clean(4, 1), "oredYddddddddddd"))))
}

// E3, and the document's sixth example
func TestTheHandGoesOnceRound(t *testing.T) {
	k := begin(t, 3, 7)
	for _, addr := range []int{16, 32, 48} {
		k = reach(t, k, 0, addr, 1, api.ToRead)
	}
	is(t, k, made([]api.Frame{seen(clean(1, 1)), seen(clean(2, 1)), seen(clean(3, 1))}, nil, 7, 0, entries(1, 2, 3)))
	k = reach(t, k, 0, 64, 1, api.ToRead)
	is(t, k, made([]api.Frame{seen(clean(4, 1)), clean(2, 1), clean(3, 1)}, nil, 7, 1, []api.Entry{{Page: 2, Kind: 1, At: 1}, {Page: 3, Kind: 1, At: 2}, {Page: 4, Kind: 1, At: 0}}))
	k = reach(t, k, 0, 32, 1, api.ToRead)
	k = reach(t, k, 0, 80, 1, api.ToRead)
	is(t, k, made([]api.Frame{seen(clean(4, 1)), clean(2, 1), seen(clean(5, 1))}, nil, 7, 0, []api.Entry{{Page: 2, Kind: 1, At: 1}, {Page: 4, Kind: 1, At: 0}, {Page: 5, Kind: 1, At: 2}}))
}

// E3: Dirty frames go to the lowest slot that none names, and come back Dirty, the slot being zero then.
func TestPutAsideAndBroughtBack(t *testing.T) {
	k := made([]api.Frame{dirty(clean(3, 1), letters("+")), clean(1, 1), clean(2, 1)},
		[]api.Slot{{Data: letters("!"), Refs: 1}, {}, {Data: letters("?"), Refs: 1}}, 4, 0,
		[]api.Entry{{Page: 1, Kind: 1, At: 1}, {Page: 2, Kind: 1, At: 2}, {Page: 3, Kind: 1, At: 0}, {Page: 4, Kind: 2, At: 0}, {Page: 5, Kind: 2, At: 2}})
	k = reach(t, k, 0, 96, 1, api.ToRead)
	is(t, k, made([]api.Frame{seen(clean(6, 1)), clean(1, 1), clean(2, 1)},
		[]api.Slot{{Data: letters("!"), Refs: 1}, {Data: letters("+"), Refs: 1}, {Data: letters("?"), Refs: 1}}, 4, 1,
		[]api.Entry{{Page: 1, Kind: 1, At: 1}, {Page: 2, Kind: 1, At: 2}, {Page: 3, Kind: 2, At: 1}, {Page: 4, Kind: 2, At: 0}, {Page: 5, Kind: 2, At: 2}, {Page: 6, Kind: 1, At: 0}}))
	k = reach(t, k, 0, 64, 1, api.ToRead)
	is(t, k, made([]api.Frame{seen(clean(6, 1)), seen(dirty(clean(4, 1), letters("!"))), clean(2, 1)},
		[]api.Slot{{}, {Data: letters("+"), Refs: 1}, {Data: letters("?"), Refs: 1}}, 4, 2,
		[]api.Entry{{Page: 2, Kind: 1, At: 2}, {Page: 3, Kind: 2, At: 1}, {Page: 4, Kind: 1, At: 1}, {Page: 5, Kind: 2, At: 2}, {Page: 6, Kind: 1, At: 0}}))
}

// E3: the slot that a page comes from is still named while the frame for it is got.
func TestASlotIsNamedUntilItsPageIsThere(t *testing.T) {
	k := made([]api.Frame{dirty(clean(3, 1), letters("+")), clean(1, 1), clean(2, 1)}, []api.Slot{{Data: letters("!"), Refs: 1}}, 6, 0,
		[]api.Entry{{Page: 1, Kind: 1, At: 1}, {Page: 2, Kind: 1, At: 2}, {Page: 3, Kind: 1, At: 0}, {Page: 4, Kind: 2, At: 0}})
	is(t, reach(t, k, 0, 64, 1, api.ToRead), made([]api.Frame{seen(dirty(clean(4, 1), letters("!"))), clean(1, 1), clean(2, 1)}, []api.Slot{{}, {Data: letters("+"), Refs: 1}}, 5, 1,
		[]api.Entry{{Page: 1, Kind: 1, At: 1}, {Page: 2, Kind: 1, At: 2}, {Page: 3, Kind: 2, At: 1}, {Page: 4, Kind: 1, At: 0}}))
}

// E3, E4: the first page's frame is held while the second one is brought, and stays Seen when the hand passes it.
func TestTheFirstFrameIsHeld(t *testing.T) {
	k := made([]api.Frame{seen(clean(1, 1)), seen(clean(2, 1)), clean(6, 1)}, nil, 7, 2, entries(1, 2, 6))
	is(t, reach(t, k, 0, 60, 8, api.ToRead), made([]api.Frame{seen(clean(4, 1)), clean(2, 1), seen(clean(3, 1))}, nil, 7, 1,
		[]api.Entry{{Page: 2, Kind: 1, At: 1}, {Page: 3, Kind: 1, At: 2}, {Page: 4, Kind: 1, At: 0}}))
	n, s := load(t, k, 0, 60, 8)
	if s != "ccccdddX" {
		t.Errorf("loaded is %q", s)
	}
	is(t, n, reach(t, k, 0, 60, 8, api.ToRead))
}

// E3, E4: the second page is put aside to get a frame for the first one, and comes again: forgotten, if it is clean, from a slot, if it is Dirty.
func TestThePageThatIsPutAsideByTheVeryGetting(t *testing.T) {
	k := made([]api.Frame{clean(4, 1), clean(1, 1), clean(2, 1)}, nil, 7, 0, []api.Entry{{Page: 1, Kind: 1, At: 1}, {Page: 2, Kind: 1, At: 2}, {Page: 4, Kind: 1, At: 0}})
	is(t, reach(t, k, 0, 60, 8, api.ToRead), made([]api.Frame{seen(clean(3, 1)), seen(clean(4, 1)), clean(2, 1)}, nil, 7, 2, []api.Entry{{Page: 2, Kind: 1, At: 2}, {Page: 3, Kind: 1, At: 0}, {Page: 4, Kind: 1, At: 1}}))
	k.Frames[0] = dirty(clean(4, 1), letters("+"))
	is(t, reach(t, k, 0, 60, 8, api.ToRead), made([]api.Frame{seen(clean(3, 1)), seen(dirty(clean(4, 1), letters("+"))), clean(2, 1)}, nil, 7, 2, []api.Entry{{Page: 2, Kind: 1, At: 2}, {Page: 3, Kind: 1, At: 0}, {Page: 4, Kind: 1, At: 1}}))
	is(t, store(t, k, 0, 60, "verynext"), made([]api.Frame{seen(dirty(clean(3, 1), filled(3)[:12]+"very")), seen(dirty(clean(4, 1), "next"+letters("+")[4:])), clean(2, 1)}, nil, 7, 2, []api.Entry{{Page: 2, Kind: 1, At: 2}, {Page: 3, Kind: 1, At: 0}, {Page: 4, Kind: 1, At: 1}}))
}

// E4, point 2: of a frame that is shared, one more is got to write, the other space keeps its own; to read, it stays shared.
func TestSharedPagesAreWritten(t *testing.T) {
	k := made([]api.Frame{clean(3, 2), clean(1, 2), {}}, nil, 14, 0, []api.Entry{{Page: 1, Kind: 1, At: 1}, {Page: 3, Kind: 1, At: 0}}, []api.Entry{{Page: 1, Kind: 1, At: 1}, {Page: 3, Kind: 1, At: 0}})
	is(t, reach(t, k, 1, 48, 1, api.ToRead), made([]api.Frame{seen(clean(3, 2)), clean(1, 2), {}}, nil, 14, 0, k.Spaces[0].Entries, k.Spaces[1].Entries))
	n := store(t, k, 1, 50, "mine")
	is(t, n, made([]api.Frame{clean(3, 1), clean(1, 2), seen(dirty(clean(3, 1), "ccmine"+filled(3)[6:]))}, nil, 14, 0, k.Spaces[0].Entries, []api.Entry{{Page: 1, Kind: 1, At: 1}, {Page: 3, Kind: 1, At: 2}}))
	is(t, store(t, n, 0, 48, "also"), made([]api.Frame{seen(dirty(clean(3, 1), "also"+filled(3)[4:])), clean(1, 2), n.Frames[2]}, nil, 14, 0, n.Spaces[0].Entries, n.Spaces[1].Entries))
}

// E3, E4, point 2: the frame that is shared is held, Seen or not, while one more is got; another space's page is put aside for it.
func TestTheSharedFrameIsHeld(t *testing.T) {
	shared := []api.Entry{{Page: 1, Kind: 1, At: 1}, {Page: 2, Kind: 1, At: 2}, {Page: 3, Kind: 1, At: 0}}
	k := made([]api.Frame{clean(3, 2), seen(clean(1, 2)), seen(clean(2, 2))}, nil, 14, 0, shared, shared)
	is(t, reach(t, k, 0, 48, 1, api.ToWrite), made([]api.Frame{clean(3, 1), seen(dirty(clean(3, 1), filled(3))), clean(2, 2)}, nil, 14, 2,
		[]api.Entry{{Page: 2, Kind: 1, At: 2}, {Page: 3, Kind: 1, At: 1}}, []api.Entry{{Page: 2, Kind: 1, At: 2}, {Page: 3, Kind: 1, At: 0}}))
}

// E3, E4: two pages that are shared are written, with three frames: the second one's shared frame is put aside to get one more for the first.
func TestTwoSharedPagesAndFewFrames(t *testing.T) {
	shared := []api.Entry{{Page: 1, Kind: 1, At: 2}, {Page: 3, Kind: 1, At: 0}, {Page: 4, Kind: 1, At: 1}}
	k := made([]api.Frame{seen(dirty(clean(3, 2), letters("+"))), seen(dirty(clean(4, 2), letters("!"))), seen(clean(1, 2))}, nil, 14, 0, shared, shared)
	is(t, store(t, k, 1, 60, "twopages"), made(
		[]api.Frame{seen(dirty(clean(3, 1), letters("+"))), seen(dirty(clean(3, 1), letters("+")[:12]+"twop")), seen(dirty(clean(4, 1), "ages"+letters("!")[4:]))},
		[]api.Slot{{Data: letters("!"), Refs: 1}}, 13, 0,
		[]api.Entry{{Page: 3, Kind: 1, At: 0}, {Page: 4, Kind: 2, At: 0}}, []api.Entry{{Page: 3, Kind: 1, At: 1}, {Page: 4, Kind: 1, At: 2}}))
	k.Frames[1] = seen(clean(4, 2))
	want := made(
		[]api.Frame{seen(dirty(clean(3, 1), letters("+"))), seen(dirty(clean(3, 1), letters("+")[:12]+"twop")), seen(dirty(clean(4, 1), "ages"+filled(4)[4:]))},
		nil, 14, 0, []api.Entry{{Page: 3, Kind: 1, At: 0}}, []api.Entry{{Page: 3, Kind: 1, At: 1}, {Page: 4, Kind: 1, At: 2}})
	is(t, store(t, k, 1, 60, "twopages"), want)
	// Not Seen, it is taken at once; so the hand comes by the first one's old frame later, which is not held any more.
	k.Frames[1].Seen = false
	want.Frames[0].Seen = false
	is(t, store(t, k, 1, 60, "twopages"), want)
}

// E3, E4: the first one's frame and the shared one are both held: only the third one is left, wherever the hand is.
func TestTwoFramesAreHeld(t *testing.T) {
	for hand := range 3 {
		mine := []api.Entry{{Page: 1, Kind: 1, At: 2}, {Page: 3, Kind: 1, At: 0}, {Page: 4, Kind: 1, At: 1}}
		k := made([]api.Frame{dirty(clean(3, 1), letters("+")), clean(4, 2), seen(dirty(clean(1, 1), letters("-")))}, nil, 14, hand, []api.Entry{{Page: 4, Kind: 1, At: 1}}, mine)
		is(t, store(t, k, 1, 60, "twopages"), made(
			[]api.Frame{seen(dirty(clean(3, 1), letters("+")[:12]+"twop")), clean(4, 1), seen(dirty(clean(4, 1), "ages"+filled(4)[4:]))},
			[]api.Slot{{Data: letters("-"), Refs: 1}}, 13, 0,
			[]api.Entry{{Page: 4, Kind: 1, At: 1}}, []api.Entry{{Page: 1, Kind: 2, At: 0}, {Page: 3, Kind: 1, At: 0}, {Page: 4, Kind: 1, At: 2}}))
	}
}

// E3, E4: a shared frame that is put aside is a shared slot; each space gets a frame of its own from it, and the last one frees it.
func TestASharedSlot(t *testing.T) {
	gone := []api.Entry{{Page: 3, Kind: 2, At: 1}}
	k := made([]api.Frame{{}, {}, {}}, []api.Slot{{}, {Data: letters("+"), Refs: 3}}, 19, 2, gone, gone, gone)
	k = reach(t, k, 1, 48, 8, api.ToRead)
	back := seen(dirty(clean(3, 1), letters("+")))
	is(t, k, made([]api.Frame{back, {}, {}}, []api.Slot{{}, {Data: letters("+"), Refs: 2}}, 19, 2, gone, entries(3), gone))
	k = reach(t, k, 2, 48, 8, api.ToRead)
	k = store(t, k, 0, 48, "me")
	is(t, k, made([]api.Frame{back, back, seen(dirty(clean(3, 1), "me"+letters("+")[2:]))}, []api.Slot{{}, {}}, 19, 2, []api.Entry{{Page: 3, Kind: 1, At: 2}}, entries(3), []api.Entry{{Page: 3, Kind: 1, At: 1}}))
}

// E3: a Dirty frame that is shared takes the entries of all spaces along, a clean one takes them away.
func TestSharedFramesArePutAside(t *testing.T) {
	shared := []api.Entry{{Page: 1, Kind: 1, At: 1}, {Page: 2, Kind: 1, At: 2}, {Page: 3, Kind: 1, At: 0}}
	k := made([]api.Frame{dirty(clean(3, 3), letters("+")), clean(1, 3), clean(2, 3)}, nil, 21, 0, shared, shared, shared)
	k = reach(t, k, 1, 96, 1, api.ToRead)
	aside := []api.Entry{{Page: 1, Kind: 1, At: 1}, {Page: 2, Kind: 1, At: 2}, {Page: 3, Kind: 2, At: 0}}
	is(t, k, made([]api.Frame{seen(clean(6, 1)), clean(1, 3), clean(2, 3)}, []api.Slot{{Data: letters("+"), Refs: 3}}, 20, 1, aside, append(slices.Clone(aside), api.Entry{Page: 6, Kind: 1, At: 0}), aside))
	k = reach(t, k, 2, 80, 1, api.ToRead)
	is(t, k, made([]api.Frame{seen(clean(6, 1)), seen(clean(5, 1)), clean(2, 3)}, []api.Slot{{Data: letters("+"), Refs: 3}}, 20, 2, aside[1:], append(slices.Clone(aside[1:]), api.Entry{Page: 6, Kind: 1, At: 0}), append(slices.Clone(aside[1:]), api.Entry{Page: 5, Kind: 1, At: 1})))
}

// E4, point 1: pages of areas that are Zero come as zeros, though a sheet has their number.
func TestPagesOfZeros(t *testing.T) {
	k, err := kernel.Unmap(begin(t, 3, 7), 0, 3, 1)
	if err != api.OK {
		t.Fatal(err)
	}
	if k, err = kernel.Map(k, 0, 3, 1, api.Write); err != api.OK {
		t.Fatal(err)
	}
	peek(t, k, 0, 3, zeros)
	k, s := load(t, k, 0, 60, 8)
	if s != "\x00\x00\x00\x00dddX" {
		t.Errorf("loaded is %q", s)
	}
	k = store(t, k, 0, 62, "over")
	peek(t, k, 0, 3, zeros[:14]+"ov")
	peek(t, k, 0, 4, "er"+filled(4)[2:])
}
