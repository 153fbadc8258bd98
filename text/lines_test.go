package text_test

import (
	"strings"
	"testing"

	"foliant/api"
	"foliant/text"
)

// assembled: the lines are these bytes, and these the lines.
func assembled(t *testing.T, s, want string) {
	t.Helper()
	if b, err := text.Assemble(s); b != want || err != api.OK {
		t.Errorf("Assemble of %.200q: %.200x %d, must be %.200x", s, b, err, want)
	}
	if l, err := text.List(want); l != s || err != api.OK {
		t.Errorf("List of %.200x: %.200q %d, must be %.200q", want, l, err, s)
	}
}

// I2, I3
func TestLines(t *testing.T) {
	assembled(t, "", "")
	assembled(t, "out\n", code(api.Instr{Op: 16, Imm: 1}))
	assembled(t, "load 1 2 -4 8\nexit\n", "\x09\x01\x02\x08\xfc\xff\xff\xff"+"\x10\x00\x00\x00\x06\x00\x00\x00")
	assembled(t, "set 0 5\nout\nraw 99 0 0 0 0\n", "\x01\x00\x00\x00\x05\x00\x00\x00"+"\x10\x00\x00\x00\x01\x00\x00\x00"+"\x63\x00\x00\x00\x00\x00\x00\x00")
	assembled(t, "out\nout\nout\n", strings.Repeat(code(api.Instr{Op: 16, Imm: 1}), 3))
	for _, line := range lines {
		i, err := text.Read(line)
		if err != api.OK {
			t.Fatalf("Read of %q: %d", line, err)
		}
		assembled(t, line+"\n", code(i))
	}
}

// I2, P1: what is no program.
func TestAssembleErrors(t *testing.T) {
	full := strings.Repeat("out\n", api.MaxLines)
	for _, c := range []struct {
		name, s string
		want    api.Errno
	}{
		{"no line feed", "out", api.ErrForm},
		{"no line feed behind the last one", "out\nexit", api.ErrForm},
		{"a blank without a line feed", " ", api.ErrForm},
		{"an empty line", "\n", api.ErrForm},
		{"an empty line behind", "out\n\n", api.ErrForm},
		{"an empty line ahead", "\nout\n", api.ErrForm},
		{"an empty line between", "out\n\nout\n", api.ErrForm},
		{"a blank behind a line", "out \n", api.ErrForm},
		{"a blank ahead of a line", "out\n exit\n", api.ErrForm},
		{"a return ahead of the line feed", "out\r\n", api.ErrForm},
		{"a return in its place", "out\rexit\r", api.ErrForm},
		{"a zero byte in its place", "out\x00", api.ErrForm},
		{"the first line shows none", "on\nout\nexit\n", api.ErrForm},
		{"the last line shows none", "out\nexit\non\n", api.ErrForm},
		{"a line between shows none", "out\nset 8 1\nexit\n", api.ErrForm},
		{"what is shown by another row", "out\nraw 16 0 0 0 1\n", api.ErrForm},
		{"two on a line", "out exit\n", api.ErrForm},
		{"a remark", "out\n# exit\n", api.ErrForm},
		{"the last one of MaxLines shows none", full[4:] + "on\n", api.ErrForm},
		{"the first one of MaxLines shows none", "on\n" + full[4:], api.ErrForm},
		{"MaxLines empty lines", strings.Repeat("\n", api.MaxLines), api.ErrForm},
		{"what is behind MaxLines lines has no line feed", full + "out", api.ErrForm},
		{"one line more than may be", full + "out\n", api.ErrMany},
		{"one line more, which shows none", full + "on\n", api.ErrMany},
		{"one line more, and the first one shows none", "\n" + full, api.ErrMany},
		{"one line more, and no line feed behind what follows", full + "out\nout", api.ErrMany},
		{"one empty line more than may be", strings.Repeat("\n", api.MaxLines+1), api.ErrMany},
		{"very many lines", strings.Repeat("on\n", 100000), api.ErrMany},
		{"very many bytes, no line", strings.Repeat("x", 1000000), api.ErrForm},
	} {
		if b, err := text.Assemble(c.s); b != "" || err != c.want {
			t.Errorf("%s: %d bytes %d, must be %d", c.name, len(b), err, c.want)
		}
	}
	assembled(t, full, strings.Repeat(code(api.Instr{Op: 16, Imm: 1}), api.MaxLines))
}

// I2, P1: how many bytes may be listed; ErrMany is first.
func TestListErrors(t *testing.T) {
	for _, c := range []struct {
		bytes int
		want  api.Errno
	}{
		{0, api.OK}, {1, api.ErrRange}, {4, api.ErrRange}, {7, api.ErrRange}, {8, api.OK}, {9, api.ErrRange}, {15, api.ErrRange}, {16, api.OK},
		{8*api.MaxLines - 8, api.OK}, {8*api.MaxLines - 1, api.ErrRange}, {8 * api.MaxLines, api.OK},
		{8*api.MaxLines + 1, api.ErrRange}, {8*api.MaxLines + 4, api.ErrRange}, {8*api.MaxLines + 7, api.ErrRange},
		{8*api.MaxLines + 8, api.ErrMany}, {8*api.MaxLines + 9, api.ErrMany}, {8*api.MaxLines + 15, api.ErrMany}, {8*api.MaxLines + 16, api.ErrMany}, {1000001, api.ErrMany},
	} {
		l, err := text.List(strings.Repeat("\x00", c.bytes))
		want := ""
		if c.want == api.OK {
			want = strings.Repeat("raw 0 0 0 0 0\n", c.bytes/8)
		}
		if l != want || err != c.want {
			t.Errorf("%d bytes: %.40q %d, must be %.40q %d", c.bytes, l, err, want, c.want)
		}
	}
}

// I3: programs of drawn instructions, as lines and as bytes.
func TestDrawnPrograms(t *testing.T) {
	r := draw(3)
	for range 300 {
		s, b := "", ""
		for range r.n(30) {
			i := drawn(&r)
			s += byWords(i) + "\n"
			b += code(i)
		}
		assembled(t, s, b)
	}
}

// I3: bytes as they come.
func TestDrawnBytes(t *testing.T) {
	r := draw(4)
	for range 300 {
		var b []byte
		for range 8 * r.n(20) {
			b = append(b, byte([]int{r.n(256), r.n(18), 0}[r.n(3)]))
		}
		s, err := text.List(string(b))
		if err != api.OK {
			t.Fatalf("List of %x: %d", b, err)
		}
		assembled(t, s, string(b))
	}
}

// I3, P1: of texts that are turned here and there either nothing comes, or List of it is the text.
func TestTurnedTexts(t *testing.T) {
	r := draw(5)
	read := 0
	for range 20000 {
		var s []byte
		for range 1 + r.n(3) {
			s = append(s, lines[r.n(len(lines))]+"\n"...)
		}
		for range r.n(3) {
			at := r.n(len(s))
			switch b := "0123456789- \nabcdefrstuw\x00\xff"[r.n(26)]; r.n(3) {
			case 0:
				s[at] = b
			case 1:
				s = append(s[:at], s[at+1:]...)
			default:
				s = append(s[:at], append([]byte{b}, s[at:]...)...)
			}
		}
		b, err := text.Assemble(string(s))
		if err != api.OK {
			if b != "" || err != api.ErrForm {
				t.Fatalf("Assemble of %q: %x %d", s, b, err)
			}
			continue
		}
		read++
		if l, err := text.List(b); l != string(s) || err != api.OK {
			t.Fatalf("Assemble of %q is %x, and List of that %q %d", s, b, l, err)
		}
	}
	if read < 5000 || read > 15000 {
		t.Errorf("%d of the texts are programs", read)
	}
}

// P3: the same again, whatever was asked between.
func TestTextsTwice(t *testing.T) {
	for _, s := range []string{"", "out\n", "out", "set 1 2\nraw 99 0 0 0 0\n", "on\n", strings.Repeat("\n", 600)} {
		a, errA := text.Assemble(s)
		text.Assemble("exit\nset 1 2\n")
		text.List(strings.Repeat("\x10", 80))
		b, errB := text.Assemble(s)
		if a != b || errA != errB {
			t.Errorf("Assemble of %.20q: %x %d, and then %x %d", s, a, errA, b, errB)
		}
	}
}
