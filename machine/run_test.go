package machine_test

import (
	"slices"
	"testing"

	"foliant/api"
	"foliant/machine"
)

// H1: step by step.
func TestRun(t *testing.T) {
	m := start(t, 3, 40, []int{5}, call(api.CallOut), call(api.CallFork), call(api.CallOut), api.Instr{Op: api.OpJump, Imm: -8})
	is(t, "no picks", run(t, m), m)
	is(t, "one pick", run(t, m, 0), steps(t, m, 0))
	picks := []int{0, 0, 1, 0, 1, 1, 0, 1}
	is(t, "several", run(t, m, picks...), steps(t, m, picks...))
}

// H1: picks that are no process's when their turn comes; the same number may be one's later.
func TestRunPassesOver(t *testing.T) {
	m := start(t, 3, 40, []int{5}, call(api.CallOut), call(api.CallFork), call(api.CallOut))
	n := run(t, m, 1, -1, 0, 1, 2, 4, 0, 1, least, greatest, 2)
	is(t, "passed over", n, steps(t, m, 0, 0, 1))
	is(t, "none of them is one's", run(t, m, 1, 2, 3, -1), m)
	is(t, "not Running", run(t, sample(), 1, 2, 1, 9), sample())
}

// H1, P1: the limits of picks.
func TestRunOfManyPicks(t *testing.T) {
	m := start(t, 3, 20, nil, api.Instr{Op: api.OpAddI, A: 1, B: 1, Imm: 1}, api.Instr{Op: api.OpJump, Imm: -8})
	n := run(t, m, make([]int, api.MaxPicks)...)
	if n.Procs[0].Regs[1] != api.MaxPicks/2 {
		t.Errorf("as many as may be: %v", n.Procs)
	}
	for _, picks := range [][]int{make([]int, api.MaxPicks+1), slices.Repeat([]int{-1}, api.MaxPicks+1), slices.Repeat([]int{7}, 100000)} {
		if n, err := machine.Run(m, picks); !isNone(n) || err != api.ErrMany {
			t.Errorf("%d picks: %v %d", len(picks), n.Procs, err)
		}
	}
}

// H1, P1: a Step says ErrMany only of one that is Running, when there are MaxPicks words.
func TestRunOfManyWords(t *testing.T) {
	m := start(t, 3, 20, nil, call(api.CallOut), api.Instr{Op: api.OpJump, Imm: -8})
	m.Out = make([]api.Word, api.MaxPicks-2)
	n := run(t, m, 0, 0, 0, -1, 1)
	if len(n.Out) != api.MaxPicks {
		t.Errorf("%d words", len(n.Out))
	}
	is(t, "none of them is one's", run(t, n, 1, -1), n)
	for _, picks := range [][]int{{0}, {-1, 1, 0}, {0, -1}} {
		if x, err := machine.Run(n, picks); !isNone(x) || err != api.ErrMany {
			t.Errorf("%v: %d", picks, err)
		}
	}
	if x, err := machine.Run(m, []int{0, 0, 0, 0}); !isNone(x) || err != api.ErrMany {
		t.Errorf("on the way: %d", err)
	}
	over := turned(sample(), func(m *api.Machine) { m.Out = make([]api.Word, api.MaxPicks) })
	is(t, "not Running", run(t, over, 1, 2), over)
}
