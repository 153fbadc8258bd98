package cpu_test

import (
	"math"
	"strings"
	"testing"

	"foliant/api"
	"foliant/cpu"
)

// draw: numbers for scripts that are long; the same each time.
type draw uint64

func (d *draw) n(n int) int {
	*d = *d*6364136223846793005 + 1442695040888963407
	return int(uint64(*d) >> 33 % uint64(n))
}

// code: the bytes of an instruction, made by hand; its parts must be in range.
func code(i api.Instr) string {
	return string([]byte{byte(i.Op), byte(i.A), byte(i.B), byte(i.C), byte(i.Imm), byte(i.Imm >> 8), byte(i.Imm >> 16), byte(i.Imm >> 24)})
}

// F1
func TestEncode(t *testing.T) {
	for _, c := range []struct {
		i    api.Instr
		want string
	}{
		{api.Instr{}, "\x00\x00\x00\x00\x00\x00\x00\x00"},
		{api.Instr{Op: 1, A: 2, B: 3, C: 4, Imm: 0x05060708}, "\x01\x02\x03\x04\x08\x07\x06\x05"},
		{api.Instr{Op: 255, A: 254, B: 253, C: 252, Imm: -1}, "\xff\xfe\xfd\xfc\xff\xff\xff\xff"},
		{api.Instr{Op: 128, A: 127, Imm: -2}, "\x80\x7f\x00\x00\xfe\xff\xff\xff"},
		{api.Instr{Imm: math.MaxInt32}, "\x00\x00\x00\x00\xff\xff\xff\x7f"},
		{api.Instr{Imm: math.MinInt32}, "\x00\x00\x00\x00\x00\x00\x00\x80"},
		{api.Instr{Imm: 256}, "\x00\x00\x00\x00\x00\x01\x00\x00"},
		{api.Instr{Imm: -256}, "\x00\x00\x00\x00\x00\xff\xff\xff"},
	} {
		if s, err := cpu.Encode(c.i); s != c.want || err != api.OK {
			t.Errorf("Encode of %v: %x %d, must be %x", c.i, s, err, c.want)
		}
		if i, err := cpu.Decode(c.want); i != c.i || err != api.OK {
			t.Errorf("Decode of %x: %v %d, must be %v", c.want, i, err, c.i)
		}
	}
}

// F1, P1: each part by itself, the others being right.
func TestEncodeOutOfRange(t *testing.T) {
	for _, n := range []int{-1, -2, 256, 257, -255, -256, 1 << 16, 1 << 32, -1 << 32, math.MaxInt, math.MinInt, math.MinInt + 1} {
		for _, i := range []api.Instr{{Op: n, A: 1, B: 2, C: 3, Imm: 4}, {Op: 1, A: n, B: 2, C: 3, Imm: 4}, {Op: 1, A: 2, B: n, C: 3, Imm: 4}, {Op: 1, A: 2, B: 3, C: n, Imm: 4}} {
			if s, err := cpu.Encode(i); s != "" || err != api.ErrRange {
				t.Errorf("Encode of %v: %x %d", i, s, err)
			}
		}
	}
	for _, n := range []int{math.MaxInt32 + 1, math.MinInt32 - 1, math.MaxUint32, math.MaxUint32 + 1, 1 << 32, -1 << 32, math.MaxInt, math.MinInt} {
		i := api.Instr{Op: 1, A: 2, B: 3, C: 4, Imm: n}
		if s, err := cpu.Encode(i); s != "" || err != api.ErrRange {
			t.Errorf("Encode of %v: %x %d", i, s, err)
		}
	}
}

// notEight are texts that have not eight bytes.
func notEight() []string {
	whole := code(api.Instr{Op: api.OpSet, A: 1, Imm: 5})
	l := []string{whole + "\x00", whole + whole, strings.Repeat("\x00", 1000)}
	for n := range 8 {
		l = append(l, whole[:n])
	}
	return l
}

// F1, P1: Ask and Done tell it ahead of what is bad.
func TestBytesThatAreNotEight(t *testing.T) {
	p := api.Proc{Regs: [api.Regs]int{1, 2, 3}, Pc: 8, State: api.Running}
	for _, s := range append(notEight(), "\xff", "\xff\xff\xff\xff\xff\xff\xff\xff\xff") {
		if i, err := cpu.Decode(s); i != (api.Instr{}) || err != api.ErrRange {
			t.Errorf("Decode of %x: %v %d", s, i, err)
		}
		if a, err := cpu.Ask(p, s); a != (api.Ask{}) || err != api.ErrRange {
			t.Errorf("Ask of %x: %v %d", s, a, err)
		}
		if q, err := cpu.Done(p, s, 9); q != (api.Proc{}) || err != api.ErrRange {
			t.Errorf("Done of %x: %v %d", s, q, err)
		}
	}
}

// F4: each byte in each place, and drawn ones.
func TestBytesAndBack(t *testing.T) {
	both := func(s string) {
		i, err := cpu.Decode(s)
		if err != api.OK {
			t.Fatalf("Decode of %x: %d", s, err)
		}
		if back, err := cpu.Encode(i); back != s || err != api.OK {
			t.Fatalf("%x comes back as %x %d", s, back, err)
		}
	}
	for n := range 8 {
		for b := range 256 {
			s := []byte("abcdefgh")
			s[n] = byte(b)
			both(string(s))
		}
	}
	r := draw(1)
	for range 2000 {
		var s [8]byte
		for n := range s {
			s[n] = byte(r.n(256))
		}
		both(string(s[:]))
	}
}

// F4: Imm at its limits and all between, as far as they are drawn.
func TestInstructionsAndBack(t *testing.T) {
	r := draw(2)
	for n := range 2000 {
		i := api.Instr{Op: r.n(256), A: r.n(256), B: r.n(256), C: r.n(256), Imm: r.n(1<<31)*2 + r.n(2) + math.MinInt32}
		if n < 6 {
			i.Imm = []int{math.MinInt32, math.MinInt32 + 1, -1, 0, math.MaxInt32 - 1, math.MaxInt32}[n]
		}
		s, err := cpu.Encode(i)
		if err != api.OK || s != code(i) {
			t.Fatalf("Encode of %v: %x %d", i, s, err)
		}
		if back, err := cpu.Decode(s); back != i || err != api.OK {
			t.Fatalf("%v comes back as %v %d", i, back, err)
		}
	}
}
