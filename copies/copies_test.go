package copies_test

import (
	"reflect"
	"slices"
	"testing"

	"foliant/api"
	"foliant/copies"
)

func sample() api.Kernel {
	return api.Kernel{
		Sheets: []api.Sheet{{Page: 1, Data: "one", Fixes: []api.Fix{{Off: 2, Bytes: "x"}}}, {Page: 2}},
		Frames: []api.Frame{{Data: "frame", Refs: 1, Dirty: true, Seen: true}, {}},
		Slots:  []api.Slot{{Data: "slot", Refs: 2}},
		Spaces: []api.Space{{Live: true, Areas: []api.Area{{Page: 3, Pages: 4, Prot: 1, Zero: true}}, Entries: []api.Entry{{Page: 3, Kind: 2, At: 9}}}, {}},
		Hand:   5,
	}
}

// P2: the copy is the same, right or not, and a change of either, in the room behind its lists too, is not seen in the other one.
func TestKernel(t *testing.T) {
	k := sample()
	k.Spaces[0].Areas = append(k.Spaces[0].Areas, api.Area{})[:1]
	c := copies.Kernel(k)
	if !reflect.DeepEqual(c, sample()) {
		t.Fatalf("%v, must be %v", c, sample())
	}
	k.Sheets[0].Fixes[0].Off = 7
	k.Spaces[0].Areas[0].Page, k.Spaces[0].Entries[0].Page = 7, 7
	_ = append(k.Spaces[0].Areas, api.Area{Page: 7})
	k.Sheets[1].Page, k.Frames[1].Refs, k.Slots[0].Refs, k.Spaces[1].Live = 7, 7, 7, true
	if !reflect.DeepEqual(c, sample()) {
		t.Errorf("a change is seen: %v", c)
	}
}

// P2: so is a space's.
func TestSpace(t *testing.T) {
	s := sample().Spaces[0]
	c := copies.Space(s)
	clear(s.Areas)
	clear(s.Entries)
	want := sample().Spaces[0]
	if c.Live != want.Live || !slices.Equal(c.Areas, want.Areas) || !slices.Equal(c.Entries, want.Entries) {
		t.Errorf("%v, must be %v", c, want)
	}
	if c := copies.Space(api.Space{}); c.Live || len(c.Areas) > 0 || len(c.Entries) > 0 {
		t.Errorf("of nothing: %v", c)
	}
}
