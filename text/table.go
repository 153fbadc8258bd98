package text

import "foliant/api"

// row is how an instruction may be shown: its Op (and Imm, of a call) are told by the name, and there is a letter for each part behind it.
type row struct {
	name     string
	op, call int
	parts    string
}

// table has the rows in the order in which they are tried; the last one shows any instruction.
var table = []row{
	{"set", api.OpSet, 0, "ai"},
	{"here", api.OpHere, 0, "ai"},
	{"add", api.OpAdd, 0, "abc"},
	{"sub", api.OpSub, 0, "abc"},
	{"mul", api.OpMul, 0, "abc"},
	{"and", api.OpAnd, 0, "abc"},
	{"xor", api.OpXor, 0, "abc"},
	{"shr", api.OpShr, 0, "abc"},
	{"addi", api.OpAddI, 0, "abi"},
	{"equal", api.OpEqual, 0, "abi"},
	{"less", api.OpLess, 0, "abi"},
	{"load", api.OpLoad, 0, "abic"},
	{"store", api.OpStore, 0, "abic"},
	{"jump", api.OpJump, 0, "i"},
	{"go", api.OpGo, 0, "a"},
	{"out", api.OpCall, api.CallOut, ""},
	{"map", api.OpCall, api.CallMap, ""},
	{"unmap", api.OpCall, api.CallUnmap, ""},
	{"protect", api.OpCall, api.CallProtect, ""},
	{"fork", api.OpCall, api.CallFork, ""},
	{"exit", api.OpCall, api.CallExit, ""},
	{"raw", 0, 0, "oabci"},
}

// rows: those of the table, by their names.
func rows() map[string]row {
	m := map[string]row{}
	for _, r := range table {
		m[r.name] = r
	}
	return m
}

// rowOf: the first row that the instruction can be shown by.
func rowOf(i api.Instr, bad bool) row {
	for _, r := range table {
		if !bad && r.told(i) == i {
			return r
		}
	}
	return table[len(table)-1]
}

// blank: an instruction of that name, its parts still 0.
func (r row) blank() api.Instr { return api.Instr{Op: r.op, Imm: r.call} }

// told: what a row tells of an instruction; it is another one, if there is more to tell.
func (r row) told(i api.Instr) api.Instr {
	t := r.blank()
	for _, part := range r.parts {
		*field(&t, part) = *field(&i, part)
	}
	return t
}

// field: where the part of that letter stands.
func field(i *api.Instr, part rune) *int {
	switch part {
	case 'o':
		return &i.Op
	case 'a':
		return &i.A
	case 'b':
		return &i.B
	case 'c':
		return &i.C
	}
	return &i.Imm
}
