package text_test

import (
	"math"
	"testing"

	"foliant/api"
	"foliant/text"
)

// I1, I3: each row.
func TestRows(t *testing.T) {
	for _, c := range []struct {
		i    api.Instr
		want string
	}{
		{api.Instr{Op: api.OpSet, A: 1, Imm: 2}, "set 1 2"},
		{api.Instr{Op: api.OpHere, A: 7, Imm: -16}, "here 7 -16"},
		{api.Instr{Op: api.OpAdd, A: 1, B: 2, C: 3}, "add 1 2 3"},
		{api.Instr{Op: api.OpSub, A: 7, B: 6, C: 5}, "sub 7 6 5"},
		{api.Instr{Op: api.OpMul, A: 4, B: 0, C: 7}, "mul 4 0 7"},
		{api.Instr{Op: api.OpAnd}, "and 0 0 0"},
		{api.Instr{Op: api.OpXor, B: 7}, "xor 0 7 0"},
		{api.Instr{Op: api.OpShr, C: 1}, "shr 0 0 1"},
		{api.Instr{Op: api.OpAddI, A: 1, B: 2, Imm: -3}, "addi 1 2 -3"},
		{api.Instr{Op: api.OpEqual, A: 3, B: 4, Imm: 800}, "equal 3 4 800"},
		{api.Instr{Op: api.OpLess, A: 5, B: 6}, "less 5 6 0"},
		{api.Instr{Op: api.OpLoad, A: 1, B: 2, C: 8, Imm: -4}, "load 1 2 -4 8"},
		{api.Instr{Op: api.OpStore, A: 3, B: 4, C: 1, Imm: 5}, "store 3 4 5 1"},
		{api.Instr{Op: api.OpLoad, C: 2}, "load 0 0 0 2"},
		{api.Instr{Op: api.OpStore, C: 4}, "store 0 0 0 4"},
		{api.Instr{Op: api.OpJump, Imm: -8}, "jump -8"},
		{api.Instr{Op: api.OpJump}, "jump 0"},
		{api.Instr{Op: api.OpGo, A: 6}, "go 6"},
		{api.Instr{Op: api.OpGo}, "go 0"},
		{api.Instr{Op: api.OpCall, Imm: api.CallOut}, "out"},
		{api.Instr{Op: api.OpCall, Imm: api.CallMap}, "map"},
		{api.Instr{Op: api.OpCall, Imm: api.CallUnmap}, "unmap"},
		{api.Instr{Op: api.OpCall, Imm: api.CallProtect}, "protect"},
		{api.Instr{Op: api.OpCall, Imm: api.CallFork}, "fork"},
		{api.Instr{Op: api.OpCall, Imm: api.CallExit}, "exit"},
		{api.Instr{}, "raw 0 0 0 0 0"},
		{api.Instr{Op: 17}, "raw 17 0 0 0 0"},
		{api.Instr{Op: 255, A: 254, B: 253, C: 252, Imm: -1}, "raw 255 254 253 252 -1"},
	} {
		both(t, c.i, c.want)
	}
}

// I1: bad ones, by each part that may make one bad.
func TestBadOnesAreRaw(t *testing.T) {
	for op := api.OpSet; op <= api.OpCall; op++ {
		good := api.Instr{Op: op}
		switch op {
		case api.OpLoad, api.OpStore:
			good.C = 4
		case api.OpCall:
			good.Imm = 3
		}
		for _, n := range []int{0, 1, 7, 8, 9, 128, 255} {
			for part := range 3 {
				i := good
				*[]*int{&i.A, &i.B, &i.C}[part] = n
				both(t, i, byWords(i))
			}
		}
	}
	for _, c := range []struct {
		i    api.Instr
		want string
	}{
		{api.Instr{Op: api.OpSet, A: 8, Imm: 2}, "raw 1 8 0 0 2"},
		{api.Instr{Op: api.OpAdd, A: 1, B: 8, C: 3}, "raw 2 1 8 3 0"},
		{api.Instr{Op: api.OpShr, A: 1, B: 2, C: 8}, "raw 7 1 2 8 0"},
		{api.Instr{Op: api.OpLess, A: 1, B: 8, Imm: 3}, "raw 14 1 8 0 3"},
		{api.Instr{Op: api.OpLoad, A: 1, B: 2, C: 3, Imm: 3}, "raw 9 1 2 3 3"},
		{api.Instr{Op: api.OpStore, A: 1, B: 2, Imm: 3}, "raw 10 1 2 0 3"},
		{api.Instr{Op: api.OpStore, A: 1, B: 2, C: 16, Imm: 3}, "raw 10 1 2 16 3"},
		{api.Instr{Op: api.OpGo, A: 8}, "raw 15 8 0 0 0"},
		{api.Instr{Op: api.OpCall}, "raw 16 0 0 0 0"},
		{api.Instr{Op: api.OpCall, Imm: 7}, "raw 16 0 0 0 7"},
		{api.Instr{Op: api.OpCall, Imm: -1}, "raw 16 0 0 0 -1"},
		{api.Instr{Op: api.OpCall, Imm: math.MinInt32}, "raw 16 0 0 0 -2147483648"},
	} {
		both(t, c.i, c.want)
	}
}

// I1: a field that the row does not show is not 0.
func TestWhatARowDoesNotShow(t *testing.T) {
	for _, c := range []struct {
		i    api.Instr
		want string
	}{
		{api.Instr{Op: api.OpSet, A: 1, B: 1, Imm: 2}, "raw 1 1 1 0 2"},
		{api.Instr{Op: api.OpSet, A: 1, C: 255, Imm: 2}, "raw 1 1 0 255 2"},
		{api.Instr{Op: api.OpHere, A: 1, B: 1}, "raw 11 1 1 0 0"},
		{api.Instr{Op: api.OpHere, A: 1, C: 1}, "raw 11 1 0 1 0"},
		{api.Instr{Op: api.OpAdd, A: 1, B: 2, C: 3, Imm: -1}, "raw 2 1 2 3 -1"},
		{api.Instr{Op: api.OpShr, A: 1, B: 2, C: 3, Imm: 1}, "raw 7 1 2 3 1"},
		{api.Instr{Op: api.OpAddI, A: 1, B: 2, C: 3, Imm: 4}, "raw 8 1 2 3 4"},
		{api.Instr{Op: api.OpEqual, A: 1, B: 2, C: 1}, "raw 13 1 2 1 0"},
		{api.Instr{Op: api.OpLess, A: 1, B: 2, C: 200}, "raw 14 1 2 200 0"},
		{api.Instr{Op: api.OpJump, A: 1, Imm: 8}, "raw 12 1 0 0 8"},
		{api.Instr{Op: api.OpJump, B: 1, Imm: 8}, "raw 12 0 1 0 8"},
		{api.Instr{Op: api.OpJump, C: 1, Imm: 8}, "raw 12 0 0 1 8"},
		{api.Instr{Op: api.OpGo, A: 2, B: 1}, "raw 15 2 1 0 0"},
		{api.Instr{Op: api.OpGo, A: 2, C: 1}, "raw 15 2 0 1 0"},
		{api.Instr{Op: api.OpGo, A: 2, Imm: -1}, "raw 15 2 0 0 -1"},
		{api.Instr{Op: api.OpCall, A: 1, Imm: 1}, "raw 16 1 0 0 1"},
		{api.Instr{Op: api.OpCall, B: 1, Imm: 6}, "raw 16 0 1 0 6"},
		{api.Instr{Op: api.OpCall, C: 1, Imm: 5}, "raw 16 0 0 1 5"},
	} {
		both(t, c.i, c.want)
	}
}

// I1: numbers below 0, and the greatest and the least.
func TestNumbers(t *testing.T) {
	for _, c := range []struct {
		n    int
		want string
	}{
		{0, "0"}, {9, "9"}, {10, "10"}, {100, "100"}, {101, "101"}, {-1, "-1"}, {-10, "-10"}, {-100, "-100"},
		{math.MaxInt32 - 1, "2147483646"}, {math.MaxInt32, "2147483647"}, {math.MinInt32 + 1, "-2147483647"}, {math.MinInt32, "-2147483648"},
	} {
		both(t, api.Instr{Op: api.OpSet, A: 1, Imm: c.n}, "set 1 "+c.want)
		both(t, api.Instr{Op: api.OpJump, Imm: c.n}, "jump "+c.want)
		both(t, api.Instr{Op: api.OpStore, A: 1, B: 2, C: 4, Imm: c.n}, "store 1 2 "+c.want+" 4")
		both(t, api.Instr{Op: 99, A: 1, B: 2, C: 4, Imm: c.n}, "raw 99 1 2 4 "+c.want)
	}
}

// I1, P1: Encode's error, by each part, whatever the others are.
func TestShowOutOfRange(t *testing.T) {
	var l []api.Instr
	for _, n := range []int{-1, 256, 257, 1 << 32, 1<<32 + 1, -1 << 32, math.MinInt32, math.MaxInt, math.MinInt} {
		l = append(l, api.Instr{Op: n, A: 1}, api.Instr{Op: 1, A: n}, api.Instr{Op: 1, B: n}, api.Instr{Op: 1, C: n},
			api.Instr{Op: 99, A: n}, api.Instr{Op: api.OpJump, A: n}, api.Instr{Op: api.OpCall, Imm: 1, C: n}, api.Instr{Op: n, A: n, B: n, C: n, Imm: n})
	}
	for _, n := range []int{math.MaxInt32 + 1, math.MinInt32 - 1, 1 << 32, 1<<32 + 1, -1 << 32, math.MaxInt, math.MinInt, math.MinInt + 1} {
		l = append(l, api.Instr{Op: 1, Imm: n}, api.Instr{Op: api.OpCall, Imm: n}, api.Instr{Op: api.OpAdd, Imm: n}, api.Instr{Imm: n})
	}
	for _, i := range l {
		if s, err := text.Show(i); s != "" || err != api.ErrRange {
			t.Errorf("Show of %v: %q %d, must be ErrRange", i, s, err)
		}
	}
}

// I1, I3: what the words say, of many.
func TestDrawnInstructions(t *testing.T) {
	r := draw(1)
	seen := map[bool]int{}
	for range 30000 {
		i := drawn(&r)
		want := byWords(i)
		both(t, i, want)
		seen[want == raw(i)]++
		if want != raw(i) {
			notRead(t, raw(i))
		}
	}
	if seen[true] < 5000 || seen[false] < 5000 {
		t.Errorf("%d are raw, %d are not: too few", seen[true], seen[false])
	}
}
