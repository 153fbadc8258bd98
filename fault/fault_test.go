package fault_test

import (
	"math"
	"slices"
	"testing"

	"foliant/api"
	"foliant/fault"
)

// areas: page 1 to run, 2 to write, 3 to read, 5 to write and to run, 255 to write.
func areas() []api.Area {
	return []api.Area{{Page: 1, Pages: 1, Prot: api.Exec}, {Page: 2, Pages: 1, Prot: api.Write, Zero: true}, {Page: 3, Pages: 1}, {Page: 5, Pages: 1, Prot: 3}, {Page: 255, Pages: 1, Prot: api.Write}}
}

var cases = []struct {
	name            string
	addr, size, way int
	want            api.Fault
}{
	{"to read, wherever it is mapped", 16, 8, api.ToRead, api.Fault{}},
	{"to read, over two pages' end", 31, 2, api.ToRead, api.Fault{}},
	{"to read, up to the end", 63, 1, api.ToRead, api.Fault{}},
	{"to read, behind the end", 64, 1, api.ToRead, api.Fault{Kind: api.FaultMap, Addr: 64}},
	{"to read, over the end", 60, 8, api.ToRead, api.Fault{Kind: api.FaultMap, Addr: 64}},
	{"to read, from ahead of it on", 15, 8, api.ToRead, api.Fault{Kind: api.FaultMap, Addr: 15}},
	{"to read, page 0", 0, 1, api.ToRead, api.Fault{Kind: api.FaultMap}},
	{"to read, below 0", -1, 8, api.ToRead, api.Fault{Kind: api.FaultMap, Addr: -1}},
	{"to read, far below 0: no page of ours", -16, 4, api.ToRead, api.Fault{Kind: api.FaultMap, Addr: -16}},
	{"to read, the last bytes", 4088, 8, api.ToRead, api.Fault{}},
	{"to read, over the last byte", 4089, 8, api.ToRead, api.Fault{Kind: api.FaultMap, Addr: 4096}},
	{"to read, the least", math.MinInt, 8, api.ToRead, api.Fault{Kind: api.FaultMap, Addr: math.MinInt}},
	{"to read, the greatest", math.MaxInt, 8, api.ToRead, api.Fault{Kind: api.FaultMap, Addr: math.MaxInt}},
	{"to read, up to the greatest", math.MaxInt - 7, 8, api.ToRead, api.Fault{Kind: api.FaultMap, Addr: math.MaxInt - 7}},
	{"to write", 32, 8, api.ToWrite, api.Fault{}},
	{"to write, with both rights", 87, 8, api.ToWrite, api.Fault{}},
	{"to write, no right", 24, 8, api.ToWrite, api.Fault{Kind: api.FaultRight, Addr: 24}},
	{"to write, no right from the second page on", 46, 4, api.ToWrite, api.Fault{Kind: api.FaultRight, Addr: 48}},
	{"to write, nothing mapped from the second page on", 90, 8, api.ToWrite, api.Fault{Kind: api.FaultMap, Addr: 96}},
	{"to write, no right, and then nothing mapped", 60, 8, api.ToWrite, api.Fault{Kind: api.FaultRight, Addr: 60}},
	{"to write, nothing mapped, and then a right", 76, 8, api.ToWrite, api.Fault{Kind: api.FaultMap, Addr: 76}},
	{"to run", 24, 8, api.ToRun, api.Fault{}},
	{"to run, with both rights", 80, 8, api.ToRun, api.Fault{}},
	{"to run, no right", 32, 8, api.ToRun, api.Fault{Kind: api.FaultRight, Addr: 32}},
	{"to run, no place", 25, 8, api.ToRun, api.Fault{Kind: api.FaultAlign, Addr: 25}},
	{"to run, no place, and no right", 36, 8, api.ToRun, api.Fault{Kind: api.FaultAlign, Addr: 36}},
	{"to run, no place, and nothing mapped", 67, 8, api.ToRun, api.Fault{Kind: api.FaultAlign, Addr: 67}},
	{"to run, no place below 0", -1, 8, api.ToRun, api.Fault{Kind: api.FaultAlign, Addr: -1}},
	{"to run, below 0", -8, 8, api.ToRun, api.Fault{Kind: api.FaultMap, Addr: -8}},
	{"to run, the least", math.MinInt, 8, api.ToRun, api.Fault{Kind: api.FaultMap, Addr: math.MinInt}},
	{"to run, the greatest", math.MaxInt, 8, api.ToRun, api.Fault{Kind: api.FaultAlign, Addr: math.MaxInt}},
	{"to run, the greatest place", math.MaxInt - 7, 8, api.ToRun, api.Fault{Kind: api.FaultMap, Addr: math.MaxInt - 7}},
}

// E4, P2: the areas are only read.
func TestOf(t *testing.T) {
	l := areas()
	for _, c := range cases {
		if f := fault.Of(l, c.addr, c.size, c.way); f != c.want {
			t.Errorf("%s: %v, must be %v", c.name, f, c.want)
		}
	}
	if !slices.Equal(l, areas()) {
		t.Error("the areas are other ones")
	}
	if f := fault.Of(nil, 16, 1, api.ToRead); f != (api.Fault{Kind: api.FaultMap, Addr: 16}) {
		t.Errorf("nothing mapped at all: %v", f)
	}
}
