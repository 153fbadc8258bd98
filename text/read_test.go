package text_test

import (
	"fmt"
	"strings"
	"testing"

	"foliant/api"
	"foliant/text"
)

// I1, P1: texts that show nothing.
func TestWhatShowsNothing(t *testing.T) {
	for _, s := range []string{
		"", " ", "  ", "\n", "\x00", "nothing", "0", "1 2", "-", "-1",
		"set", "set ", "set 1", "set 1 ", "set  1 2", "set 1  2", " set 1 2", "set 1 2 ", "set 1 2\n", "\nset 1 2", "set 1 2\r", "set\t1 2", "set 1\t2", "set\n1 2", "set 1 2 3", "set 1 2 0", "set,1,2", "set1 2", "set 12",
		"SET 1 2", "Set 1 2", "sett 1 2", "se 1 2", "et 1 2", "set\x00 1 2", "set 1 2\x00", "sets 1 2", "\xef\xbb\xbfset 1 2",
		"set 01 2", "set 1 02", "set 1 00", "set 00 0", "set 1 -0", "set -0 1", "set 1 -02", "set 1 +2", "set +1 2", "set 1 --2", "set 1 - 2", "set 1 2-", "set 1 2.", "set 1 2.0", "set 1 1e3", "set 1 0x2", "set 1 0b1", "set 1 0o1", "set 1 1_0", "set 1 x", "set x 1", "set a b", "set 1 \u0662", "set 1 \uff12", "set 1 \u22122",
		"set 8 2", "set -1 2", "set 255 2", "set 256 2", "set 4294967297 2",
		"add 1 2", "add 1 2 3 4", "add 1 2 8", "add 1 8 2", "add 8 1 2", "add 1 2 -3", "add",
		"addi 1 2", "addi 1 2 3 4", "addi 8 2 3", "addi 1 8 3",
		"load 1 2 3", "load 1 2 3 4 5", "load 1 2 4 3", "load 1 2 3 0", "load 1 2 3 3", "load 1 2 3 16", "load 1 2 3 -1", "load 8 2 3 4", "load 1 8 3 4",
		"jump", "jump 1 2", "jump +8", "jump  8", "go", "go 8", "go -1", "go 1 0", "go 1 2",
		"out 1", "out ", " out", "out 0", "Out", "ou", "outt", "exit\n", "call", "call 1", "call 0 0 0 1", "map 1 2 3", "fork 0",
		"raw", "raw 0", "raw 0 0 0 0", "raw 0 0 0 0 0 0", "raw 0 0 0 0 0 ", "raw  0 0 0 0 0", "raw 00 0 0 0 0", "raw 0 0 0 0 -0", "raw 256 0 0 0 0", "raw 0 256 0 0 0", "raw 0 0 256 0 0", "raw 0 0 0 256 0", "raw -1 0 0 0 0", "raw 0 -1 0 0 0", "raw 0 0 -1 0 0", "raw 0 0 0 -1 0", "raw 0 0 0 0 2147483648", "raw 0 0 0 0 -2147483649",
		"raw 1 1 0 0 2", "raw 12 0 0 0 0", "raw 16 0 0 0 1", "raw 2 0 0 0 0", "raw 9 1 2 8 3", "raw 15 7 0 0 0",
		"out\nexit", "set 1 2;", "# out", "out # out",
		strings.Repeat(" ", 100000), strings.Repeat("set 1 2 ", 10000), "set 1 " + strings.Repeat("1", 100000), "set 1 " + strings.Repeat("0", 100000) + "1", strings.Repeat("x", 100000),
	} {
		notRead(t, s)
	}
}

// I1: numbers near the limits of an int, and those that would come back in range if they went round.
func TestNumbersThatAreTooGreat(t *testing.T) {
	for _, n := range []string{
		"2147483648", "-2147483649", "4294967295", "4294967296", "4294967297", "-4294967296", "-4294967297",
		"9223372036854775806", "9223372036854775807", "9223372036854775808", "-9223372036854775807", "-9223372036854775808", "-9223372036854775809",
		"18446744073709551615", "18446744073709551616", "18446744073709551617", "-18446744073709551615", "340282366920938463463374607431768211457", "99999999999999999999999999",
	} {
		for _, form := range []string{"set 1 %s", "set %s 1", "jump %s", "go %s", "add %s 0 0", "add 0 %s 0", "add 0 0 %s", "addi 1 2 %s", "load 1 2 %s 8", "load 1 2 3 %s", "raw 99 0 0 0 %s", "raw %s 0 0 0 0", "raw 99 %s 0 0 0", "raw 99 0 %s 0 0", "raw 99 0 0 %s 0"} {
			notRead(t, fmt.Sprintf(form, n))
		}
	}
}

// lines: one of each row, and of each length of number.
var lines = []string{"set 1 2", "here 7 -16", "add 1 2 3", "shr 0 7 0", "addi 1 2 -3", "equal 3 4 800", "less 5 6 0", "load 1 2 -4 8", "store 3 4 2147483647 1", "jump -2147483648", "go 6", "out", "map", "unmap", "protect", "fork", "exit", "raw 0 0 0 0 0", "raw 255 254 253 252 -1", "raw 1 8 0 0 2", "raw 16 0 0 0 10"}

// strictly: a text that shows an instruction is just how it is shown; another one is ErrForm. It is told if it shows one.
func strictly(t *testing.T, s string) bool {
	t.Helper()
	i, err := text.Read(s)
	switch {
	case err == api.OK && byWords(i) == s:
		return true
	case err != api.ErrForm || i != (api.Instr{}):
		t.Errorf("Read of %q: %v %d", s, i, err)
	}
	return false
}

// I1, I3: each sign too much or too few, or in the place of another one.
func TestEachSign(t *testing.T) {
	read := 0
	for _, line := range lines {
		if !strictly(t, line) {
			t.Errorf("%q is not read", line)
		}
		for at := range len(line) + 1 {
			for b := range 256 {
				if strictly(t, line[:at]+string([]byte{byte(b)})+line[at:]) {
					read++
				}
				if at < len(line) && strictly(t, line[:at]+string([]byte{byte(b)})+line[at+1:]) {
					read++
				}
			}
			if at < len(line) && strictly(t, line[:at]+line[at+1:]) {
				read++
			}
		}
	}
	if read < 500 {
		t.Errorf("%d texts show an instruction: too few", read)
	}
}

// I1, I3: words put together as they come; what byWords says of all small instructions is all that is read.
func TestWordsAsTheyCome(t *testing.T) {
	words := []string{"set", "here", "add", "addi", "load", "store", "jump", "go", "out", "exit", "raw", "0", "1", "2", "8", "9", "12", "16", "-1", "01", ""}
	r := draw(2)
	read := 0
	for range 60000 {
		l := []string{words[r.n(11)]}
		for range r.n(7) {
			l = append(l, words[11+r.n(len(words)-11)])
		}
		if strictly(t, strings.Join(l, " ")) {
			read++
		}
	}
	if read < 500 {
		t.Errorf("%d texts show an instruction: too few", read)
	}
}

// I3: no two instructions are shown alike, and each of them is read.
func TestShownOnce(t *testing.T) {
	seen := map[string]api.Instr{}
	for op := range 18 {
		for n := range 10 * 10 * 10 {
			for imm := -1; imm < 8; imm++ {
				i := api.Instr{Op: op, A: n % 10, B: n / 10 % 10, C: n / 100, Imm: imm}
				s, err := text.Show(i)
				if other, ok := seen[s]; ok || err != api.OK {
					t.Fatalf("%v is shown as %q, %d, as %v is", i, s, err, other)
				}
				seen[s] = i
				if s != byWords(i) {
					t.Fatalf("%v is shown as %q, must be %q", i, s, byWords(i))
				}
			}
		}
	}
}
