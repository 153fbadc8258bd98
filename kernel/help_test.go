package kernel_test

import (
	"fmt"
	"math"
	"slices"
	"strings"
	"testing"

	"foliant/api"
	"foliant/kernel"
)

var (
	edges = []int{math.MinInt, math.MinInt + 1, -4096, -16, -8, -1, 4096, math.MaxInt - 7, math.MaxInt - 1, math.MaxInt}
	zeros = strings.Repeat("\x00", api.PageSize)
)

// letters: a page of one letter.
func letters(c string) string { return strings.Repeat(c, api.PageSize) }

// filled: what page n of the program is filled with.
func filled(n int) string {
	if n == 4 {
		return "dddXYddddddddddd"
	}
	return letters(string(rune('a' + n - 1)))
}

// program: pages 1 and 2 to run, 3 to 5 to write, 6 to read, 8 to run and to write.
func program() api.Linked {
	l := api.Linked{Entry: 24, Areas: []api.Area{{Page: 1, Pages: 2, Prot: 2}, {Page: 3, Pages: 3, Prot: 1}, {Page: 6, Pages: 1}, {Page: 8, Pages: 1, Prot: 3}}}
	for _, n := range []int{1, 2, 3, 4, 5, 6, 8} {
		s := api.Sheet{Page: n, Data: filled(n)}
		if n == 4 {
			s.Data, s.Fixes = letters("d"), []api.Fix{{Off: 3, Bytes: "X"}, {Off: 4, Bytes: "Y"}}
		}
		l.Sheets = append(l.Sheets, s)
	}
	return l
}

// pages is how many pages the program has.
const pages = 7

func begin(t *testing.T, frames, slots int) api.Kernel {
	t.Helper()
	k, err := kernel.New(program(), frames, slots)
	if err != api.OK {
		t.Fatalf("New: %d", err)
	}
	return k
}

// made: a kernel of the program, with frames and slots as they are given (and so many that none names behind them), and spaces of the program's areas with these entries.
func made(frames []api.Frame, slots []api.Slot, free, hand int, entries ...[]api.Entry) api.Kernel {
	k := api.Kernel{Sheets: program().Sheets, Frames: frames, Slots: append(slices.Clone(slots), make([]api.Slot, free)...), Hand: hand}
	for _, e := range entries {
		k.Spaces = append(k.Spaces, api.Space{Live: true, Areas: program().Areas, Entries: e})
	}
	return k
}

func right(t *testing.T, k api.Kernel) {
	t.Helper()
	if err := kernel.Check(k); err != api.OK {
		t.Fatalf("the kernel is not right: %d: %s", err, show(k))
	}
}

func equal(a, b api.Kernel) bool {
	return slices.Equal(a.Frames, b.Frames) && slices.Equal(a.Slots, b.Slots) && a.Hand == b.Hand &&
		slices.EqualFunc(a.Sheets, b.Sheets, func(a, b api.Sheet) bool {
			return a.Page == b.Page && a.Data == b.Data && slices.Equal(a.Fixes, b.Fixes)
		}) &&
		slices.EqualFunc(a.Spaces, b.Spaces, func(a, b api.Space) bool {
			return a.Live == b.Live && slices.Equal(a.Areas, b.Areas) && slices.Equal(a.Entries, b.Entries)
		})
}

func show(k api.Kernel) string {
	s := fmt.Sprintf("hand %d\n", k.Hand)
	for n, f := range k.Frames {
		s += fmt.Sprintf("frame %d: %d, dirty %v, seen %v, %q\n", n, f.Refs, f.Dirty, f.Seen, f.Data)
	}
	for n, f := range k.Slots {
		if f != (api.Slot{}) {
			s += fmt.Sprintf("slot %d: %d, %q\n", n, f.Refs, f.Data)
		}
	}
	for n, x := range k.Spaces {
		s += fmt.Sprintf("space %d: %v %v %v\n", n, x.Live, x.Areas, x.Entries)
	}
	return s
}

// is: the kernel that came is the one that is wanted, which must be right itself.
func is(t *testing.T, got, want api.Kernel) {
	t.Helper()
	right(t, want)
	if !equal(got, want) {
		t.Errorf("it is\n%sand must be\n%s", show(got), show(want))
	}
}

// load, store, fork: what must be answered without a fault or an error.
func load(t *testing.T, k api.Kernel, space, addr, size int) (api.Kernel, string) {
	t.Helper()
	n, s, f, err := kernel.Load(k, space, addr, size, api.ToRead)
	if err != api.OK || f != (api.Fault{}) {
		t.Fatalf("Load of %d, %d: %v %d", addr, size, f, err)
	}
	right(t, n)
	return n, s
}

func store(t *testing.T, k api.Kernel, space, addr int, s string) api.Kernel {
	t.Helper()
	n, f, err := kernel.Store(k, space, addr, s)
	if err != api.OK || f != (api.Fault{}) {
		t.Fatalf("Store at %d: %v %d", addr, f, err)
	}
	right(t, n)
	return n
}

func fork(t *testing.T, k api.Kernel, space int) api.Kernel {
	t.Helper()
	n, at, err := kernel.Fork(k, space)
	if err != api.OK || at != len(k.Spaces) {
		t.Fatalf("Fork: %d %d", at, err)
	}
	right(t, n)
	return n
}

func peek(t *testing.T, k api.Kernel, space, page int, want string) {
	t.Helper()
	if s, err := kernel.Peek(k, space, page); s != want || err != api.OK {
		t.Errorf("space %d, page %d: %q %d, must be %q", space, page, s, err, want)
	}
}

// answer is what a call answers, whichever it is.
type answer struct {
	k   api.Kernel
	s   string
	n   int
	f   api.Fault
	err api.Errno
}

func (a answer) same(b answer) bool {
	return equal(a.k, b.k) && a.s == b.s && a.n == b.n && a.f == b.f && a.err == b.err
}

// calls are all calls that get a kernel and a space; the other numbers are right, if good is, for a kernel of the program.
var calls = []struct {
	name string
	do   func(k api.Kernel, space int, good bool) answer
}{
	{"Reach", func(k api.Kernel, space int, good bool) answer {
		n, f, err := kernel.Reach(k, space, 60, size(good), api.ToRead)
		return answer{k: n, f: f, err: err}
	}},
	{"Reach to write", func(k api.Kernel, space int, good bool) answer {
		n, f, err := kernel.Reach(k, space, 60, size(good), api.ToWrite)
		return answer{k: n, f: f, err: err}
	}},
	{"Load", func(k api.Kernel, space int, good bool) answer {
		n, s, f, err := kernel.Load(k, space, 60, size(good), api.ToRead)
		return answer{k: n, s: s, f: f, err: err}
	}},
	{"Store", func(k api.Kernel, space int, good bool) answer {
		n, f, err := kernel.Store(k, space, 60, "storings"[:size(good)%9])
		return answer{k: n, f: f, err: err}
	}},
	{"Peek", func(k api.Kernel, space int, good bool) answer {
		s, err := kernel.Peek(k, space, size(good)-5)
		return answer{s: s, err: err}
	}},
	{"Map", func(k api.Kernel, space int, good bool) answer {
		n, err := kernel.Map(k, space, 30, size(good)-7, 1)
		return answer{k: n, err: err}
	}},
	{"Unmap", func(k api.Kernel, space int, good bool) answer {
		n, err := kernel.Unmap(k, space, 3, size(good)-6)
		return answer{k: n, err: err}
	}},
	{"Protect", func(k api.Kernel, space int, good bool) answer {
		n, err := kernel.Protect(k, space, 4, size(good)-7, 3)
		return answer{k: n, err: err}
	}},
	{"Fork", func(k api.Kernel, space int, good bool) answer {
		n, at, err := kernel.Fork(k, space)
		return answer{k: n, n: at, err: err}
	}},
	{"Drop", func(k api.Kernel, space int, good bool) answer {
		n, err := kernel.Drop(k, space)
		return answer{k: n, err: err}
	}},
}

func size(good bool) int {
	if good {
		return 8
	}
	return 0
}
