package cpu_test

import (
	"math"
	"math/big"
	"slices"
	"testing"

	"foliant/api"
	"foliant/cpu"
)

// begin: a process each of whose registers and fields tells which one it is.
func begin() api.Proc {
	return api.Proc{Regs: [api.Regs]int{100, 101, 102, 103, 104, 105, 106, 107}, Pc: 48, State: api.Running}
}

// with: begin, but for these registers.
func with(regs map[int]int) api.Proc {
	p := begin()
	for n, v := range regs {
		p.Regs[n] = v
	}
	return p
}

// after: the process, some fields turned.
func after(p api.Proc, turn func(*api.Proc)) api.Proc {
	p.Pc += 8
	turn(&p)
	return p
}

func reg(n, v int) func(*api.Proc) { return func(p *api.Proc) { p.Regs[n] = v } }

func pc(v int) func(*api.Proc) { return func(p *api.Proc) { p.Pc = v } }

func nothing(*api.Proc) {}

const (
	least    = math.MinInt
	greatest = math.MaxInt
)

// instructions are ones that are not bad, with what they ask for and what comes of them (the number that is handed to Done is 77).
var instructions = []struct {
	name string
	p    api.Proc
	i    api.Instr
	ask  api.Ask
	turn func(*api.Proc)
}{
	{"set", begin(), api.Instr{Op: api.OpSet, A: 3, Imm: -5}, api.Ask{}, reg(3, -5)},
	{"set, the greatest", begin(), api.Instr{Op: api.OpSet, A: 7, Imm: math.MaxInt32}, api.Ask{}, reg(7, math.MaxInt32)},
	{"set, the least", begin(), api.Instr{Op: api.OpSet, A: 0, Imm: math.MinInt32}, api.Ask{}, reg(0, math.MinInt32)},
	{"add", begin(), api.Instr{Op: api.OpAdd, A: 1, B: 2, C: 3}, api.Ask{}, reg(1, 205)},
	{"add, round", with(map[int]int{2: greatest, 3: 1}), api.Instr{Op: api.OpAdd, A: 1, B: 2, C: 3}, api.Ask{}, reg(1, least)},
	{"add, round below", with(map[int]int{2: least, 3: -1}), api.Instr{Op: api.OpAdd, A: 1, B: 2, C: 3}, api.Ask{}, reg(1, greatest)},
	{"add, all one register", begin(), api.Instr{Op: api.OpAdd, A: 2, B: 2, C: 2}, api.Ask{}, reg(2, 204)},
	{"sub", begin(), api.Instr{Op: api.OpSub, A: 1, B: 2, C: 7}, api.Ask{}, reg(1, -5)},
	{"sub, round", with(map[int]int{2: least, 3: 1}), api.Instr{Op: api.OpSub, A: 1, B: 2, C: 3}, api.Ask{}, reg(1, greatest)},
	{"sub, of the least", with(map[int]int{2: 0, 3: least}), api.Instr{Op: api.OpSub, A: 3, B: 2, C: 3}, api.Ask{}, reg(3, least)},
	{"mul", begin(), api.Instr{Op: api.OpMul, A: 1, B: 2, C: 7}, api.Ask{}, reg(1, 102*107)},
	{"mul, round", with(map[int]int{2: 1 << 32, 3: 1 << 32}), api.Instr{Op: api.OpMul, A: 1, B: 2, C: 3}, api.Ask{}, reg(1, 0)},
	{"mul, round to below 0", with(map[int]int{2: greatest, 3: 2}), api.Instr{Op: api.OpMul, A: 1, B: 2, C: 3}, api.Ask{}, reg(1, -2)},
	{"mul, the least by -1", with(map[int]int{2: least, 3: -1}), api.Instr{Op: api.OpMul, A: 1, B: 2, C: 3}, api.Ask{}, reg(1, least)},
	{"and", with(map[int]int{2: 0b1100, 3: -7}), api.Instr{Op: api.OpAnd, A: 1, B: 2, C: 3}, api.Ask{}, reg(1, 0b1000)},
	{"and, below 0", with(map[int]int{2: -4, 3: -7}), api.Instr{Op: api.OpAnd, A: 1, B: 2, C: 3}, api.Ask{}, reg(1, -8)},
	{"xor", with(map[int]int{2: 0b1100, 3: 0b1010}), api.Instr{Op: api.OpXor, A: 1, B: 2, C: 3}, api.Ask{}, reg(1, 0b0110)},
	{"xor, below 0", with(map[int]int{2: -1, 3: 5}), api.Instr{Op: api.OpXor, A: 1, B: 2, C: 3}, api.Ask{}, reg(1, -6)},
	{"shr", with(map[int]int{2: 1000, 3: 3}), api.Instr{Op: api.OpShr, A: 1, B: 2, C: 3}, api.Ask{}, reg(1, 125)},
	{"shr, by 0", with(map[int]int{2: -9, 3: 0}), api.Instr{Op: api.OpShr, A: 1, B: 2, C: 3}, api.Ask{}, reg(1, -9)},
	{"shr, no sign comes in", with(map[int]int{2: -1, 3: 1}), api.Instr{Op: api.OpShr, A: 1, B: 2, C: 3}, api.Ask{}, reg(1, greatest)},
	{"shr, by 63", with(map[int]int{2: least, 3: 63}), api.Instr{Op: api.OpShr, A: 1, B: 2, C: 3}, api.Ask{}, reg(1, 1)},
	{"shr, by 64: by nothing", with(map[int]int{2: least, 3: 64}), api.Instr{Op: api.OpShr, A: 1, B: 2, C: 3}, api.Ask{}, reg(1, least)},
	{"shr, by -1: by 63", with(map[int]int{2: -1, 3: -1}), api.Instr{Op: api.OpShr, A: 1, B: 2, C: 3}, api.Ask{}, reg(1, 1)},
	{"shr, by the least: by nothing", with(map[int]int{2: 12, 3: least}), api.Instr{Op: api.OpShr, A: 1, B: 2, C: 3}, api.Ask{}, reg(1, 12)},
	{"shr, by the greatest: by 63", with(map[int]int{2: least, 3: greatest}), api.Instr{Op: api.OpShr, A: 1, B: 2, C: 3}, api.Ask{}, reg(1, 1)},
	{"addi, the document's eighth example", with(map[int]int{2: 5}), api.Instr{Op: api.OpAddI, A: 1, B: 2, Imm: -3}, api.Ask{}, reg(1, 2)},
	{"addi, round", with(map[int]int{2: greatest}), api.Instr{Op: api.OpAddI, A: 1, B: 2, Imm: math.MaxInt32}, api.Ask{}, reg(1, least+math.MaxInt32-1)},
	{"addi, round below", with(map[int]int{2: least}), api.Instr{Op: api.OpAddI, A: 1, B: 2, Imm: -1}, api.Ask{}, reg(1, greatest)},
	{"load", begin(), api.Instr{Op: api.OpLoad, A: 1, B: 2, C: 8, Imm: -4}, api.Ask{Kind: api.AskLoad, Addr: 98, Size: 8}, reg(1, 77)},
	{"load of a byte", begin(), api.Instr{Op: api.OpLoad, A: 2, B: 2, C: 1, Imm: 4}, api.Ask{Kind: api.AskLoad, Addr: 106, Size: 1}, reg(2, 77)},
	{"load from below 0", begin(), api.Instr{Op: api.OpLoad, A: 0, B: 0, C: 2, Imm: -101}, api.Ask{Kind: api.AskLoad, Addr: -1, Size: 2}, reg(0, 77)},
	{"load, the place goes round", with(map[int]int{2: greatest}), api.Instr{Op: api.OpLoad, A: 1, B: 2, C: 4, Imm: 1}, api.Ask{Kind: api.AskLoad, Addr: least, Size: 4}, reg(1, 77)},
	{"store", begin(), api.Instr{Op: api.OpStore, A: 1, B: 2, C: 4, Imm: 9}, api.Ask{Kind: api.AskStore, Addr: 111, Size: 4, Value: 101}, nothing},
	{"store of a number with more bytes", with(map[int]int{1: least}), api.Instr{Op: api.OpStore, A: 1, B: 2, C: 1}, api.Ask{Kind: api.AskStore, Addr: 102, Size: 1, Value: least}, nothing},
	{"store, the place goes round", with(map[int]int{2: least}), api.Instr{Op: api.OpStore, A: 7, B: 2, C: 2, Imm: -1}, api.Ask{Kind: api.AskStore, Addr: greatest, Size: 2, Value: 107}, nothing},
	{"store of 0", with(map[int]int{1: 0, 2: 0}), api.Instr{Op: api.OpStore, A: 1, B: 2, C: 8}, api.Ask{Kind: api.AskStore, Size: 8}, nothing},
	{"here", begin(), api.Instr{Op: api.OpHere, A: 4, Imm: -100}, api.Ask{}, reg(4, -52)},
	{"here, round", after(begin(), pc(greatest)), api.Instr{Op: api.OpHere, A: 4, Imm: 1}, api.Ask{}, reg(4, least)},
	{"Pc goes round", after(begin(), pc(greatest-7)), api.Instr{Op: api.OpSet, A: 4, Imm: 1}, api.Ask{}, reg(4, 1)},
	{"jump", begin(), api.Instr{Op: api.OpJump, Imm: 16}, api.Ask{}, pc(64)},
	{"jump to itself", begin(), api.Instr{Op: api.OpJump}, api.Ask{}, pc(48)},
	{"jump back, to no place for an instruction", begin(), api.Instr{Op: api.OpJump, Imm: -61}, api.Ask{}, pc(-13)},
	{"jump, round", after(begin(), pc(greatest)), api.Instr{Op: api.OpJump, Imm: math.MaxInt32}, api.Ask{}, pc(least + math.MaxInt32 - 1)},
	{"equal", with(map[int]int{2: 101}), api.Instr{Op: api.OpEqual, A: 1, B: 2, Imm: -24}, api.Ask{}, pc(24)},
	{"equal to itself", begin(), api.Instr{Op: api.OpEqual, A: 1, B: 1, Imm: 80}, api.Ask{}, pc(128)},
	{"equal, it is not: less", begin(), api.Instr{Op: api.OpEqual, A: 1, B: 2, Imm: -24}, api.Ask{}, nothing},
	{"equal, it is not: more", begin(), api.Instr{Op: api.OpEqual, A: 2, B: 1, Imm: -24}, api.Ask{}, nothing},
	{"less", begin(), api.Instr{Op: api.OpLess, A: 1, B: 2, Imm: 40}, api.Ask{}, pc(88)},
	{"less, it is not: equal", begin(), api.Instr{Op: api.OpLess, A: 1, B: 1, Imm: 40}, api.Ask{}, nothing},
	{"less, it is not: more", begin(), api.Instr{Op: api.OpLess, A: 2, B: 1, Imm: 40}, api.Ask{}, nothing},
	{"less, the least", with(map[int]int{1: least, 2: greatest}), api.Instr{Op: api.OpLess, A: 1, B: 2, Imm: 40}, api.Ask{}, pc(88)},
	{"less, the greatest is not", with(map[int]int{1: greatest, 2: least}), api.Instr{Op: api.OpLess, A: 1, B: 2, Imm: 40}, api.Ask{}, nothing},
	{"less, below 0", with(map[int]int{1: -1, 2: 0}), api.Instr{Op: api.OpLess, A: 1, B: 2, Imm: 40}, api.Ask{}, pc(88)},
	{"go", begin(), api.Instr{Op: api.OpGo, A: 6}, api.Ask{}, pc(106)},
	{"go to the least", with(map[int]int{6: least}), api.Instr{Op: api.OpGo, A: 6}, api.Ask{}, pc(least)},
	{"out", begin(), api.Instr{Op: api.OpCall, Imm: api.CallOut}, api.Ask{Kind: api.AskCall, Call: api.CallOut}, nothing},
	{"map", begin(), api.Instr{Op: api.OpCall, Imm: api.CallMap}, api.Ask{Kind: api.AskCall, Call: api.CallMap}, reg(0, 77)},
	{"unmap", begin(), api.Instr{Op: api.OpCall, Imm: api.CallUnmap}, api.Ask{Kind: api.AskCall, Call: api.CallUnmap}, reg(0, 77)},
	{"protect", begin(), api.Instr{Op: api.OpCall, Imm: api.CallProtect}, api.Ask{Kind: api.AskCall, Call: api.CallProtect}, reg(0, 77)},
	{"fork", begin(), api.Instr{Op: api.OpCall, Imm: api.CallFork}, api.Ask{Kind: api.AskCall, Call: api.CallFork}, reg(0, 77)},
	{"exit", with(map[int]int{0: least}), api.Instr{Op: api.OpCall, Imm: api.CallExit}, api.Ask{Kind: api.AskCall, Call: api.CallExit}, func(p *api.Proc) { p.State, p.Code = api.Exited, least }},
}

// F2, F3
func TestInstructions(t *testing.T) {
	for _, c := range instructions {
		if a, err := cpu.Ask(c.p, code(c.i)); a != c.ask || err != api.OK {
			t.Errorf("%s: Ask %v %d, must be %v", c.name, a, err, c.ask)
		}
		want := after(c.p, c.turn)
		if p, err := cpu.Done(c.p, code(c.i), 77); p != want || err != api.OK {
			t.Errorf("%s: Done %v %d, must be %v", c.name, p, err, want)
		}
	}
}

// F2, F3: what Done is handed counts for nothing, where nothing was loaded and no call answered; else it is taken whole.
func TestTheNumberThatIsHandedIn(t *testing.T) {
	for _, c := range instructions {
		asks := c.ask.Kind == api.AskLoad || c.ask.Kind == api.AskCall && c.ask.Call != api.CallOut && c.ask.Call != api.CallExit
		for _, value := range []int{0, 1, -1, 256, least, greatest} {
			want := after(c.p, c.turn)
			if c.ask.Kind == api.AskLoad {
				want.Regs[c.i.A] = value
			} else if asks {
				want.Regs[0] = value
			}
			if p, err := cpu.Done(c.p, code(c.i), value); p != want || err != api.OK {
				t.Errorf("%s, %d: Done %v %d, must be %v", c.name, value, p, err, want)
			}
		}
	}
}

// F2: parts that an instruction does not use may be whatever they are.
func TestPartsThatAreNotUsed(t *testing.T) {
	for _, c := range instructions {
		u := uses[c.i.Op]
		for _, n := range []int{1, 8, 9, 255} {
			i := c.i
			if !u.a {
				i.A = n
			}
			if !u.b {
				i.B = n
			}
			if !u.c && !u.size {
				i.C = n
			}
			a, err := cpu.Ask(c.p, code(i))
			if a != c.ask || err != api.OK {
				t.Errorf("%s, %v: Ask %v %d, must be %v", c.name, i, a, err, c.ask)
			}
			want := after(c.p, c.turn)
			if p, err := cpu.Done(c.p, code(i), 77); p != want || err != api.OK {
				t.Errorf("%s, %v: Done %v %d, must be %v", c.name, i, p, err, want)
			}
		}
	}
}

// use is which parts of an instruction must be registers' numbers, and if C is a size, Imm a call.
type use struct{ a, b, c, size, call bool }

var uses = map[int]use{
	api.OpSet: {a: true}, api.OpHere: {a: true}, api.OpGo: {a: true}, api.OpJump: {}, api.OpCall: {call: true},
	api.OpAdd: {a: true, b: true, c: true}, api.OpSub: {a: true, b: true, c: true}, api.OpMul: {a: true, b: true, c: true},
	api.OpAnd: {a: true, b: true, c: true}, api.OpXor: {a: true, b: true, c: true}, api.OpShr: {a: true, b: true, c: true},
	api.OpAddI: {a: true, b: true}, api.OpEqual: {a: true, b: true}, api.OpLess: {a: true, b: true},
	api.OpLoad: {a: true, b: true, size: true}, api.OpStore: {a: true, b: true, size: true},
}

func bad(i api.Instr) bool {
	u, ok := uses[i.Op]
	return !ok || u.a && i.A > 7 || u.b && i.B > 7 || u.c && i.C > 7 ||
		u.size && !slices.Contains([]int{1, 2, 4, 8}, i.C) ||
		u.call && (i.Imm < 1 || i.Imm > 6)
}

// F2, F3, P1: each operation, with each part at the edges of what it may be.
func TestWhichAreBad(t *testing.T) {
	p := begin()
	parts, imms := []int{0, 1, 7, 8, 255}, []int{0, 1, 6, 7, -1, math.MaxInt32, math.MinInt32}
	for op := range 256 {
		for _, a := range parts {
			for _, b := range parts {
				for _, c := range []int{0, 1, 2, 3, 4, 5, 6, 7, 8, 9, 16, 255} {
					for _, imm := range imms {
						sameBad(t, p, api.Instr{Op: op, A: a, B: b, C: c, Imm: imm})
					}
				}
			}
		}
	}
}

func sameBad(t *testing.T, p api.Proc, i api.Instr) {
	t.Helper()
	s := code(i)
	a, err := cpu.Ask(p, s)
	if err != api.OK || (a.Kind == api.AskBad) != bad(i) || bad(i) && a != (api.Ask{Kind: api.AskBad}) {
		t.Fatalf("%v: Ask %v %d, bad: %v", i, a, err, bad(i))
	}
	q, err := cpu.Done(p, s, 9)
	if bad(i) && (err != api.ErrKind || q != api.Proc{}) || !bad(i) && err != api.OK {
		t.Fatalf("%v: Done %v %d, bad: %v", i, q, err, bad(i))
	}
}

// F2, P1: a process that no machine has is taken as it is.
func TestProcessesOfAnyKind(t *testing.T) {
	for _, p := range []api.Proc{{}, {State: api.Killed, Code: 5, Fault: api.Fault{Kind: 3, Addr: 4}}, {State: least, Code: greatest, Pc: least, Fault: api.Fault{Kind: -1, Addr: -1}}, {State: api.Exited, Code: 7}} {
		want := p
		want.Pc += 8
		want.Regs[2] = 6
		if q, err := cpu.Done(p, code(api.Instr{Op: api.OpSet, A: 2, Imm: 6}), 1); q != want || err != api.OK {
			t.Errorf("Done of %v: %v %d", p, q, err)
		}
		if a, err := cpu.Ask(p, code(api.Instr{Op: api.OpLoad, A: 2, C: 2, Imm: 6})); a != (api.Ask{Kind: api.AskLoad, Addr: 6, Size: 2}) || err != api.OK {
			t.Errorf("Ask of %v: %v %d", p, a, err)
		}
		want.Regs[2], want.State, want.Code = 0, api.Exited, 0
		if q, err := cpu.Done(p, code(api.Instr{Op: api.OpCall, Imm: api.CallExit}), 1); q != want || err != api.OK {
			t.Errorf("Done of %v: %v %d", p, q, err)
		}
	}
}

// round: a whole number as it is at 64 bits.
func round(n *big.Int) int {
	m := new(big.Int).And(n, new(big.Int).SetUint64(math.MaxUint64))
	return int(m.Uint64())
}

// F2: whole numbers of any size, of which the lowest 64 bits are taken.
func TestNumbersGoRound(t *testing.T) {
	r := draw(5)
	number := func() int {
		n := []int{0, 1, -1, 63, 64, least, greatest, 1 << 32, -1 << 31, 1<<31 - 1}[r.n(10)]
		if r.n(2) == 0 {
			n = r.n(1<<31)<<33 ^ r.n(1<<31)<<10 ^ r.n(1<<31)
		}
		return n
	}
	for range 3000 {
		p := with(map[int]int{1: number(), 2: number()})
		p.Pc = number()
		imm := r.n(1<<31)*2 + math.MinInt32
		x, y, at, more := big.NewInt(int64(p.Regs[1])), big.NewInt(int64(p.Regs[2])), big.NewInt(int64(p.Pc)), big.NewInt(int64(imm))
		bits := new(big.Int).And(x, new(big.Int).SetUint64(math.MaxUint64))
		next := round(new(big.Int).Add(at, big.NewInt(8)))
		for op, want := range map[int]*big.Int{
			api.OpAdd: new(big.Int).Add(x, y), api.OpSub: new(big.Int).Sub(x, y), api.OpMul: new(big.Int).Mul(x, y),
			api.OpAnd: new(big.Int).And(x, y), api.OpXor: new(big.Int).Xor(x, y), api.OpShr: new(big.Int).Rsh(bits, uint(p.Regs[2]&63)),
		} {
			q, err := cpu.Done(p, code(api.Instr{Op: op, A: 3, B: 1, C: 2, Imm: imm}), number())
			if err != api.OK || q.Regs[3] != round(want) || q.Pc != next {
				t.Fatalf("%d of %d and %d: %d, Pc %d, %d; must be %d", op, p.Regs[1], p.Regs[2], q.Regs[3], q.Pc, err, round(want))
			}
		}
		for op, want := range map[int]*big.Int{api.OpAddI: new(big.Int).Add(x, more), api.OpHere: new(big.Int).Add(at, more)} {
			q, err := cpu.Done(p, code(api.Instr{Op: op, A: 3, B: 1, Imm: imm}), number())
			if err != api.OK || q.Regs[3] != round(want) || q.Pc != next {
				t.Fatalf("%d of %v and %d: %d, Pc %d, %d; must be %d", op, p, imm, q.Regs[3], q.Pc, err, round(want))
			}
		}
		a, err := cpu.Ask(p, code(api.Instr{Op: api.OpStore, A: 2, B: 1, C: 4, Imm: imm}))
		if err != api.OK || a != (api.Ask{Kind: api.AskStore, Addr: round(new(big.Int).Add(x, more)), Size: 4, Value: p.Regs[2]}) {
			t.Fatalf("the place of %d and %d: %v %d", p.Regs[1], imm, a, err)
		}
		if q, err := cpu.Done(p, code(api.Instr{Op: api.OpJump, Imm: imm}), number()); err != api.OK || q.Pc != round(new(big.Int).Add(at, more)) {
			t.Fatalf("jump from %d by %d: %d %d", p.Pc, imm, q.Pc, err)
		}
	}
}

// P3: an answer hangs on what was handed in alone.
func TestAnswersAgain(t *testing.T) {
	for range 2 {
		for _, c := range instructions {
			a, _ := cpu.Ask(c.p, code(c.i))
			p, _ := cpu.Done(c.p, code(c.i), 77)
			b, _ := cpu.Ask(c.p, code(c.i))
			q, _ := cpu.Done(c.p, code(c.i), 77)
			if a != b || p != q {
				t.Errorf("%s: another answer the second time", c.name)
			}
		}
	}
}
