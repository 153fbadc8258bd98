package flat_test

import (
	"slices"
	"testing"

	"foliant/api"
	"foliant/flat"
)

func run(t *testing.T, f api.Flat, picks ...int) api.Flat {
	t.Helper()
	n, err := flat.Run(f, picks)
	if err != api.OK {
		t.Fatalf("Run: %d", err)
	}
	return n
}

// G5: step by step.
func TestRun(t *testing.T) {
	f := start(t, 40, []int{5}, call(api.CallOut), call(api.CallFork), call(api.CallOut), api.Instr{Op: api.OpJump, Imm: -8})
	is(t, "no picks", run(t, f), f)
	is(t, "one pick", run(t, f, 0), steps(t, f, 0))
	picks := []int{0, 0, 1, 0, 1, 1, 0, 1}
	is(t, "several", run(t, f, picks...), steps(t, f, picks...))
}

// G5: picks that are no process's when their turn comes; the same number may be one's later.
func TestRunPassesOver(t *testing.T) {
	f := start(t, 40, []int{5}, call(api.CallOut), call(api.CallFork), call(api.CallOut))
	n := run(t, f, 1, -1, 0, 1, 2, 4, 0, 1, least, greatest, 2)
	is(t, "passed over", n, steps(t, f, 0, 0, 1))
	is(t, "none of them is one's", run(t, f, 1, 2, 3, -1), f)
	is(t, "not Running", run(t, sample(), 1, 2, 1, 9), sample())
}

// G5, P1: the limits of picks.
func TestRunOfManyPicks(t *testing.T) {
	f := start(t, 20, nil, api.Instr{Op: api.OpAddI, A: 1, B: 1, Imm: 1}, api.Instr{Op: api.OpJump, Imm: -8})
	n := run(t, f, make([]int, api.MaxPicks)...)
	if n.Procs[0].Regs[1] != api.MaxPicks/2 {
		t.Errorf("as many as may be: %v", n.Procs)
	}
	for _, picks := range [][]int{make([]int, api.MaxPicks+1), slices.Repeat([]int{-1}, api.MaxPicks+1), slices.Repeat([]int{7}, 100000)} {
		if n, err := flat.Run(f, picks); !isNone(n) || err != api.ErrMany {
			t.Errorf("%d picks: %v %d", len(picks), n.Procs, err)
		}
	}
}

// G5, P1: a Step says ErrMany only of one that is Running, when there are MaxPicks words.
func TestRunOfManyWords(t *testing.T) {
	f := start(t, 20, nil, call(api.CallOut), api.Instr{Op: api.OpJump, Imm: -8})
	f.Out = make([]api.Word, api.MaxPicks-2)
	n := run(t, f, 0, 0, 0, -1, 1)
	if len(n.Out) != api.MaxPicks {
		t.Errorf("%d words", len(n.Out))
	}
	is(t, "none of them is one's", run(t, n, 1, -1), n)
	for _, picks := range [][]int{{0}, {-1, 1, 0}, {0, -1}} {
		if x, err := flat.Run(n, picks); !isNone(x) || err != api.ErrMany {
			t.Errorf("%v: %d", picks, err)
		}
	}
	if x, err := flat.Run(f, []int{0, 0, 0, 0}); !isNone(x) || err != api.ErrMany {
		t.Errorf("on the way: %d", err)
	}
	over := turned(sample(), func(f *api.Flat) { f.Out = make([]api.Word, api.MaxPicks) })
	is(t, "not Running", run(t, over, 1, 2), over)
	whole := start(t, 20, nil, call(api.CallOut), api.Instr{Op: api.OpJump, Imm: -8})
	if n := run(t, whole, make([]int, api.MaxPicks)...); len(n.Out) != api.MaxPicks/2 {
		t.Errorf("%d words", len(n.Out))
	}
}

// G5
func TestPeek(t *testing.T) {
	f := sample()
	for _, n := range []int{1, 2, 3, 255} {
		peek(t, f, 0, n, "sixteen letters.")
	}
	peek(t, f, 3, 7, zeros)
	for _, c := range [][2]int{
		{-1, 1}, {4, 1}, {least, 1}, {greatest, 1}, {1, 1}, {2, 7}, {3, 1}, {3, 6}, {3, 8},
		{0, 0}, {0, -1}, {0, 4}, {0, 254}, {0, 256}, {0, least}, {0, greatest}, {-1, -1}, {1, 0},
	} {
		if s, err := flat.Peek(f, c[0], c[1]); s != "" || err != api.ErrNone {
			t.Errorf("Peek of %v: %q %d", c, s, err)
		}
	}
}
