package cpu

import "foliant/api"

// isBad: a part that an instruction does not use may be whatever it is.
func isBad(i api.Instr) bool {
	switch i.Op {
	case api.OpAdd, api.OpSub, api.OpMul, api.OpAnd, api.OpXor, api.OpShr:
		return !areRegs(i.A, i.B, i.C)
	case api.OpLoad, api.OpStore:
		return !areRegs(i.A, i.B) || !isSize(i.C)
	case api.OpAddI, api.OpEqual, api.OpLess:
		return !areRegs(i.A, i.B)
	case api.OpSet, api.OpHere, api.OpGo:
		return !areRegs(i.A)
	case api.OpCall:
		return i.Imm < api.CallOut || i.Imm > api.CallExit
	}
	return i.Op != api.OpJump
}

func areRegs(parts ...int) bool {
	for _, n := range parts {
		if n < 0 || n >= api.Regs {
			return false
		}
	}
	return true
}

func isSize(n int) bool { return n == 1 || n == 2 || n == 4 || n == 8 }

func kindOf(i api.Instr) int {
	if isBad(i) {
		return api.AskBad
	}
	switch i.Op {
	case api.OpLoad:
		return api.AskLoad
	case api.OpStore:
		return api.AskStore
	case api.OpCall:
		return api.AskCall
	}
	return api.AskNone
}

// behind asks for an instruction that is not bad: registers are taken by its parts.
func behind(p api.Proc, i api.Instr, value int) api.Proc {
	to := p.Pc + i.Imm
	p.Pc += instrSize
	switch i.Op {
	case api.OpSet:
		p.Regs[i.A] = i.Imm
	case api.OpAdd, api.OpSub, api.OpMul, api.OpAnd, api.OpXor, api.OpShr:
		p.Regs[i.A] = reckon(i.Op, p.Regs[i.B], p.Regs[i.C])
	case api.OpAddI:
		p.Regs[i.A] = p.Regs[i.B] + i.Imm
	case api.OpLoad:
		p.Regs[i.A] = value
	case api.OpHere:
		p.Regs[i.A] = to
	case api.OpJump:
		p.Pc = to
	case api.OpEqual, api.OpLess:
		if holds(i.Op, p.Regs[i.A], p.Regs[i.B]) {
			p.Pc = to
		}
	case api.OpGo:
		p.Pc = p.Regs[i.A]
	case api.OpCall:
		return called(p, i.Imm, value)
	}
	return p
}

func reckon(op, b, c int) int {
	switch op {
	case api.OpAdd:
		return b + c
	case api.OpSub:
		return b - c
	case api.OpMul:
		return b * c
	case api.OpAnd:
		return b & c
	case api.OpXor:
		return b ^ c
	}
	return int(uint64(b) >> (uint64(c) & 63)) // as bits: no sign comes in from above
}

func holds(op, a, b int) bool {
	if op == api.OpEqual {
		return a == b
	}
	return a < b
}

func called(p api.Proc, call, value int) api.Proc {
	switch call {
	case api.CallMap, api.CallUnmap, api.CallProtect, api.CallFork:
		p.Regs[0] = value
	case api.CallExit:
		p.State, p.Code = api.Exited, p.Regs[0]
	}
	return p
}
