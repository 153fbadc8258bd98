package kernel_test

import (
	"fmt"
	"slices"
	"testing"
	"unsafe"

	"foliant/api"
	"foliant/kernel"
	"foliant/link"
)

// room is where a list lies, its spare room too.
type room struct {
	name       string
	begin, end uintptr
}

func roomOf[T any](name string, l []T) room {
	begin := uintptr(unsafe.Pointer(unsafe.SliceData(l)))
	var one T
	return room{name, begin, begin + uintptr(cap(l))*unsafe.Sizeof(one)}
}

// roomsOf: of all lists of a kernel that have any room.
func roomsOf(name string, k api.Kernel) []room {
	l := []room{roomOf(name+" Sheets", k.Sheets), roomOf(name+" Frames", k.Frames), roomOf(name+" Slots", k.Slots), roomOf(name+" Spaces", k.Spaces)}
	for _, s := range k.Sheets {
		l = append(l, roomOf(fmt.Sprint(name, " Fixes of ", s.Page), s.Fixes))
	}
	for n, s := range k.Spaces {
		l = append(l, roomOf(fmt.Sprint(name, " Areas of ", n), s.Areas), roomOf(fmt.Sprint(name, " Entries of ", n), s.Entries))
	}
	return slices.DeleteFunc(l, func(r room) bool { return r.begin == r.end })
}

func apart(t *testing.T, name string, l []room) {
	t.Helper()
	for n, a := range l {
		for _, b := range l[:n] {
			if a.begin < b.end && b.begin < a.end {
				t.Errorf("%s: %s and %s share memory", name, a.name, b.name)
			}
		}
	}
}

func spare[T any](l []T, with T) []T {
	return append(slices.Clone(l), slices.Repeat([]T{with}, 40)...)[:len(l)]
}

// roomy: the kernel, with spare room behind each list that must not be touched.
func roomy(k api.Kernel) api.Kernel {
	k.Sheets = spare(k.Sheets, api.Sheet{Page: -7})
	k.Frames = spare(k.Frames, api.Frame{Refs: -7})
	k.Slots = spare(k.Slots, api.Slot{Refs: -7})
	k.Spaces = spare(k.Spaces, api.Space{Live: true})
	for n := range k.Sheets {
		k.Sheets[n].Fixes = spare(k.Sheets[n].Fixes, api.Fix{Off: -7})
	}
	for n := range k.Spaces {
		k.Spaces[n].Areas = spare(k.Spaces[n].Areas, api.Area{Page: -7})
		k.Spaces[n].Entries = spare(k.Spaces[n].Entries, api.Entry{Page: -7})
	}
	return k
}

// shown: the kernel with all of its rooms.
func shown(k api.Kernel) string {
	s := fmt.Sprintf("%v %v %v %v %d", k.Sheets[:cap(k.Sheets)], k.Frames[:cap(k.Frames)], k.Slots[:cap(k.Slots)], k.Spaces[:cap(k.Spaces)], k.Hand)
	for _, x := range k.Sheets {
		s += fmt.Sprint(x.Fixes[:cap(x.Fixes)])
	}
	for _, x := range k.Spaces {
		s += fmt.Sprint(x.Areas[:cap(x.Areas)], x.Entries[:cap(x.Entries)])
	}
	return s
}

// P2, P3: each call only reads the kernel, the room behind its lists too, keeps nothing of it, and answers the same again; no two lists of an answer share memory.
func TestKernelsAreOnlyRead(t *testing.T) {
	whole := sample()
	whole.Slots = append(whole.Slots, make([]api.Slot, 20)...)
	few := made([]api.Frame{seen(dirty(clean(3, 2), letters("+"))), seen(dirty(clean(4, 2), letters("!"))), seen(clean(1, 2))}, nil, 21, 0,
		[]api.Entry{{Page: 1, Kind: 1, At: 2}, {Page: 3, Kind: 1, At: 0}, {Page: 4, Kind: 1, At: 1}}, []api.Entry{{Page: 1, Kind: 1, At: 2}, {Page: 3, Kind: 1, At: 0}, {Page: 4, Kind: 1, At: 1}})
	for _, from := range []api.Kernel{whole, few} {
		for _, call := range calls {
			for _, good := range []bool{true, false} {
				k := roomy(from)
				before := shown(k)
				a := call.do(k, 0, good)
				if err := kernel.Check(k); err != api.OK {
					t.Fatalf("%s: not right: %d", call.name, err)
				}
				if shown(k) != before {
					t.Fatalf("%s changed what was handed in", call.name)
				}
				if good && a.err != api.OK {
					t.Fatalf("%s: %d", call.name, a.err)
				}
				if !a.same(call.do(k, 0, good)) {
					t.Errorf("%s: another answer the second time", call.name)
				}
				apart(t, call.name, append(roomsOf("what came in:", k), roomsOf("the answer:", a.k)...))
			}
		}
	}
}

// P2, P3: New too.
func TestWhatIsLinkedIsOnlyRead(t *testing.T) {
	l := program()
	l.Areas = spare(l.Areas, api.Area{Page: -7})
	l.Sheets = spare(l.Sheets, api.Sheet{Page: -7})
	for n := range l.Sheets {
		l.Sheets[n].Fixes = spare(l.Sheets[n].Fixes, api.Fix{Off: -7})
	}
	all := func() string {
		s := fmt.Sprint(l.Areas[:cap(l.Areas)], l.Sheets[:cap(l.Sheets)], l.Entry)
		for _, x := range l.Sheets {
			s += fmt.Sprint(x.Fixes[:cap(x.Fixes)])
		}
		return s
	}
	before := all()
	k, err := kernel.New(l, 3, 7)
	if err != api.OK || all() != before {
		t.Fatalf("New: %d, or it changed what was handed in", err)
	}
	rooms := append(roomsOf("the kernel:", k), roomOf("linked Areas", l.Areas), roomOf("linked Sheets", l.Sheets))
	for _, s := range l.Sheets {
		rooms = append(rooms, roomOf("linked Fixes", s.Fixes))
	}
	apart(t, "New", rooms)
	for n := range l.Sheets {
		clear(l.Sheets[n].Fixes)
	}
	clear(l.Sheets)
	clear(l.Areas)
	is(t, k, begin(t, 3, 7))
}

// P2: lists without elements may be nil or not.
func TestEmptyListsAreNilOrNot(t *testing.T) {
	k := begin(t, 3, 7)
	for n := range k.Sheets {
		if len(k.Sheets[n].Fixes) == 0 {
			k.Sheets[n].Fixes = []api.Fix{}
		}
	}
	k.Spaces[0].Entries = []api.Entry{}
	k.Spaces = append(k.Spaces, api.Space{Areas: []api.Area{}, Entries: []api.Entry{}})
	other := begin(t, 3, 7)
	other.Spaces = append(other.Spaces, api.Space{})
	for _, call := range calls {
		if a, b := call.do(k, 0, true), call.do(other, 0, true); !a.same(b) {
			t.Errorf("%s: %v, with lists that are nil %v", call.name, a, b)
		}
	}
}

// A program that is linked by the linker is what the kernel brings, page by page: chapters 4 and 5 together.
func TestALinkedProgram(t *testing.T) {
	main := api.Image{Name: "main", Needs: []string{"lib"}, Segs: []api.Seg{{Pages: 2, Data: "main", Exec: true}, {Page: 2, Pages: 1, Data: "data", Write: true}}, Rels: []api.Rel{{At: 28, Name: "sym", Add: 1}}}
	lib := api.Image{Name: "lib", Segs: []api.Seg{{Pages: 1, Data: "lib", Exec: true}}, Syms: []api.Sym{{Name: "sym", At: 3}}, Rels: []api.Rel{{At: 8}}}
	l, err := link.Link(main, []api.Image{lib})
	if err != api.OK {
		t.Fatal(err)
	}
	k, err := kernel.New(l, 3, 4)
	if err != api.OK {
		t.Fatal(err)
	}
	k, s := load(t, k, 0, 44, 8)
	if s != "\x44\x00\x00\x00\x00\x00\x00\x00" {
		t.Errorf("the relocation over the page's end is %x", s)
	}
	k, s = load(t, k, 0, 72, 8)
	if s != "\x40\x00\x00\x00\x00\x00\x00\x00" {
		t.Errorf("the library's own relocation is %x", s)
	}
	k = store(t, k, 0, 60, "end")
	for _, sheet := range l.Sheets {
		want, _ := link.Fill(sheet)
		if sheet.Page == 3 {
			want = want[:12] + "end" + want[15:]
		}
		peek(t, k, 0, sheet.Page, want)
	}
}
