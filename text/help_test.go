package text_test

import (
	"fmt"
	"math"
	"testing"

	"foliant/api"
	"foliant/text"
)

// draw: numbers for scripts that are long; the same each time.
type draw uint64

func (d *draw) n(n int) int {
	*d = *d*6364136223846793005 + 1442695040888963407
	return int(uint64(*d) >> 33 % uint64(n))
}

// code: the bytes of an instruction, made by hand; its parts must be in range.
func code(i api.Instr) string {
	return string([]byte{byte(i.Op), byte(i.A), byte(i.B), byte(i.C), byte(i.Imm), byte(i.Imm >> 8), byte(i.Imm >> 16), byte(i.Imm >> 24)})
}

// byWords: how I1 says that an instruction is shown, told plainly, without the program's packages; its parts must be in range.
func byWords(i api.Instr) string {
	reg := func(l ...int) bool {
		for _, n := range l {
			if n > 7 {
				return false
			}
		}
		return true
	}
	two := map[int]string{1: "set", 11: "here"}
	three := map[int]string{2: "add", 3: "sub", 4: "mul", 5: "and", 6: "xor", 7: "shr"}
	far := map[int]string{8: "addi", 13: "equal", 14: "less"}
	reach := map[int]string{9: "load", 10: "store"}
	calls := map[int]string{1: "out", 2: "map", 3: "unmap", 4: "protect", 5: "fork", 6: "exit"}
	switch {
	case two[i.Op] != "" && reg(i.A) && i.B == 0 && i.C == 0:
		return fmt.Sprintf("%s %d %d", two[i.Op], i.A, i.Imm)
	case three[i.Op] != "" && reg(i.A, i.B, i.C) && i.Imm == 0:
		return fmt.Sprintf("%s %d %d %d", three[i.Op], i.A, i.B, i.C)
	case far[i.Op] != "" && reg(i.A, i.B) && i.C == 0:
		return fmt.Sprintf("%s %d %d %d", far[i.Op], i.A, i.B, i.Imm)
	case reach[i.Op] != "" && reg(i.A, i.B) && (i.C == 1 || i.C == 2 || i.C == 4 || i.C == 8):
		return fmt.Sprintf("%s %d %d %d %d", reach[i.Op], i.A, i.B, i.Imm, i.C)
	case i.Op == 12 && i.A == 0 && i.B == 0 && i.C == 0:
		return fmt.Sprintf("jump %d", i.Imm)
	case i.Op == 15 && reg(i.A) && i.B == 0 && i.C == 0 && i.Imm == 0:
		return fmt.Sprintf("go %d", i.A)
	case i.Op == 16 && calls[i.Imm] != "" && i.A == 0 && i.B == 0 && i.C == 0:
		return calls[i.Imm]
	}
	return raw(i)
}

func raw(i api.Instr) string { return fmt.Sprintf("raw %d %d %d %d %d", i.Op, i.A, i.B, i.C, i.Imm) }

// drawn: an instruction; half of them have just the parts that their row shows, so that each row comes.
func drawn(r *draw) api.Instr {
	imms := []int{0, 1, 5, -1, -8, 10, -10, math.MaxInt32, math.MinInt32, r.n(1<<31) - 1<<30}
	imm := imms[r.n(len(imms))]
	if r.n(2) == 0 {
		part := func() int { return []int{0, 0, 0, 1, 4, 7, 8, 9, 255, r.n(256)}[r.n(10)] }
		return api.Instr{Op: []int{1 + r.n(16), r.n(256)}[r.n(2)], A: part(), B: part(), C: part(), Imm: imm}
	}
	i := api.Instr{Op: 1 + r.n(16), A: r.n(8), B: r.n(8), C: r.n(8), Imm: imm}
	switch i.Op {
	case api.OpSet, api.OpHere:
		i.B, i.C = 0, 0
	case api.OpAddI, api.OpEqual, api.OpLess:
		i.C = 0
	case api.OpLoad, api.OpStore:
		i.C = 1 << r.n(4)
	case api.OpJump:
		i.A, i.B, i.C = 0, 0, 0
	case api.OpGo:
		i.B, i.C, i.Imm = 0, 0, 0
	case api.OpCall:
		i.A, i.B, i.C, i.Imm = 0, 0, 0, r.n(7)
	default:
		i.Imm = 0
	}
	return i
}

// both: the instruction is shown so, and that is read as it.
func both(t *testing.T, i api.Instr, want string) {
	t.Helper()
	if s, err := text.Show(i); s != want || err != api.OK {
		t.Errorf("Show of %v: %q %d, must be %q", i, s, err, want)
	}
	if back, err := text.Read(want); back != i || err != api.OK {
		t.Errorf("Read of %q: %v %d, must be %v", want, back, err, i)
	}
}

func notRead(t *testing.T, s string) {
	t.Helper()
	if i, err := text.Read(s); i != (api.Instr{}) || err != api.ErrForm {
		t.Errorf("Read of %q: %v %d, must be ErrForm alone", s, i, err)
	}
}
