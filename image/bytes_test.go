package image_test

import (
	"encoding/binary"
	"math"
	"reflect"
	"slices"
	"strings"
	"testing"

	"foliant/api"
	"foliant/image"
)

func num(n int) string { return string(binary.LittleEndian.AppendUint64(nil, uint64(n))) }

func txt(s string) string { return num(len(s)) + s }

func truth(b bool) string {
	if b {
		return num(1)
	}
	return num(0)
}

// written is the image as bytes, told once more, whether it may be or not.
func written(i api.Image) string {
	s := txt(i.Name) + num(len(i.Needs))
	for _, n := range i.Needs {
		s += txt(n)
	}
	s += num(len(i.Segs))
	for _, g := range i.Segs {
		s += num(g.Page) + num(g.Pages) + txt(g.Data) + truth(g.Write) + truth(g.Exec)
	}
	s += num(len(i.Syms))
	for _, y := range i.Syms {
		s += txt(y.Name) + num(y.At)
	}
	s += num(len(i.Rels))
	for _, r := range i.Rels {
		s += num(r.At) + txt(r.Name) + num(r.Add)
	}
	return s + num(i.Entry)
}

// same holds nil and an empty list for one.
func same(a, b api.Image) bool {
	return a.Name == b.Name && a.Entry == b.Entry && slices.Equal(a.Needs, b.Needs) && slices.Equal(a.Segs, b.Segs) && slices.Equal(a.Syms, b.Syms) && slices.Equal(a.Rels, b.Rels)
}

// isZero: no field has anything.
func isZero(i api.Image) bool { return same(i, api.Image{}) }

func mustWrite(t *testing.T, i api.Image) string {
	t.Helper()
	s, err := image.Write(i)
	if err != api.OK {
		t.Fatalf("Write: %d", err)
	}
	return s
}

// B2: byte by byte.
func TestWriteOfSmallImage(t *testing.T) {
	i := small()
	i.Segs[0].Data = "ab"
	i.Rels = []api.Rel{{At: 8, Name: "f", Add: -2}}
	want := "\x01\x00\x00\x00\x00\x00\x00\x00a" +
		"\x00\x00\x00\x00\x00\x00\x00\x00" +
		"\x01\x00\x00\x00\x00\x00\x00\x00" +
		"\x00\x00\x00\x00\x00\x00\x00\x00" + "\x01\x00\x00\x00\x00\x00\x00\x00" + "\x02\x00\x00\x00\x00\x00\x00\x00ab" + "\x00\x00\x00\x00\x00\x00\x00\x00" + "\x01\x00\x00\x00\x00\x00\x00\x00" +
		"\x00\x00\x00\x00\x00\x00\x00\x00" +
		"\x01\x00\x00\x00\x00\x00\x00\x00" +
		"\x08\x00\x00\x00\x00\x00\x00\x00" + "\x01\x00\x00\x00\x00\x00\x00\x00f" + "\xfe\xff\xff\xff\xff\xff\xff\xff" +
		"\x00\x00\x00\x00\x00\x00\x00\x00"
	if s := mustWrite(t, i); s != want {
		t.Errorf("it is\n%x\nand must be\n%x", s, want)
	}
}

// B2, B3
func TestRightOnesAreWrittenAndRead(t *testing.T) {
	for _, c := range rightOnes {
		i := changed(c)
		s, err := image.Write(i)
		if err != api.OK || s != written(i) {
			t.Errorf("%s: Write: %x %d, must be %x", c.name, s, err, written(i))
		}
		if len(s) > api.MaxBytes {
			t.Errorf("%s: %d bytes", c.name, len(s))
		}
		if back, err := image.Read(s); err != api.OK || !same(back, i) {
			t.Errorf("%s: Read: %v %d, must be %v", c.name, back, err, i)
		}
	}
}

// B2, B3, P1: what may not be is not written, nor read.
func TestWrongOnesAreNeitherWrittenNorRead(t *testing.T) {
	for _, g := range wrongs {
		for _, c := range g.ones {
			i := changed(c)
			if s, err := image.Write(i); s != "" || err != g.err {
				t.Errorf("%s: Write: %q %d, must be %d", c.name, s, err, g.err)
			}
			if back, err := image.Read(written(i)); err != api.ErrForm || !isZero(back) {
				t.Errorf("%s: Read: %v %d", c.name, back, err)
			}
		}
	}
}

// B2, B3
func TestReadOfTooFewOrTooManyBytes(t *testing.T) {
	s := mustWrite(t, fine())
	for n := range s {
		if i, err := image.Read(s[:n]); err != api.ErrForm || !isZero(i) {
			t.Errorf("Read of the first %d bytes: %v %d", n, i, err)
		}
		if i, err := image.Read(s[n+1:]); err == api.OK && written(i) != s[n+1:] || err != api.OK && !isZero(i) {
			t.Errorf("Read of the bytes behind %d: %v %d", n, i, err)
		}
	}
	for _, more := range []string{"\x00", "x", num(0), s} {
		if i, err := image.Read(s + more); err != api.ErrForm || !isZero(i) {
			t.Errorf("Read of %d bytes more: %v %d", len(more), i, err)
		}
	}
}

// B3: whatever one byte becomes, Read answers the image that has just these bytes, or none.
func TestReadOfOneByteTurned(t *testing.T) {
	for _, i := range []api.Image{small(), fine()} {
		s := mustWrite(t, i)
		read := 0
		for k := range len(s) {
			for _, by := range []byte{1, 2, 3, 0x7f, 0x80, 0xf0, 0xff} {
				b := []byte(s)
				b[k] ^= by
				got, err := image.Read(string(b))
				if err == api.OK {
					read++
					if back, err := image.Write(got); err != api.OK || back != string(b) || written(got) != string(b) {
						t.Errorf("byte %d turned by %x: it is read, but written as %x %d", k, by, back, err)
					}
				} else if err != api.ErrForm || !isZero(got) {
					t.Errorf("byte %d turned by %x: %v %d", k, by, got, err)
				}
			}
		}
		if read == 0 {
			t.Error("no turned byte was read at all")
		}
	}
}

// B2, P1: each number in turn is one that can't stand there.
func TestReadOfWrongNumbers(t *testing.T) {
	name, segment := txt("a"), num(0)+num(1)+txt("")+num(0)+num(1)
	for _, n := range []int{-1, -8, math.MinInt, math.MinInt + 8, math.MaxInt, math.MaxInt - 7, 1 << 32, 1 << 40, 1 << 62, -1 << 32, 1 << 8, 1<<32 + 1} {
		for where, s := range map[string]string{
			"bytes of a name": num(n) + "a" + num(0) + num(1) + segment + num(0) + num(0) + num(0),
			"needs":           name + num(n) + num(1) + segment + num(0) + num(0) + num(0),
			"segments":        name + num(0) + num(n) + segment + num(0) + num(0) + num(0),
			"Page":            name + num(0) + num(1) + num(n) + num(1) + txt("") + num(0) + num(1) + num(0) + num(0) + num(0),
			"Pages":           name + num(0) + num(1) + num(0) + num(n) + txt("") + num(0) + num(1) + num(0) + num(0) + num(0),
			"bytes of Data":   name + num(0) + num(1) + num(0) + num(1) + num(n) + num(0) + num(1) + num(0) + num(0) + num(0),
			"Write":           name + num(0) + num(1) + num(0) + num(1) + txt("") + num(n) + num(1) + num(0) + num(0) + num(0),
			"Exec":            name + num(0) + num(1) + num(0) + num(1) + txt("") + num(0) + num(n) + num(0) + num(0) + num(0),
			"symbols":         name + num(0) + num(1) + segment + num(n) + num(0) + num(0),
			"relocations":     name + num(0) + num(1) + segment + num(0) + num(n) + num(0),
			"Entry":           name + num(0) + num(1) + segment + num(0) + num(0) + num(n),
		} {
			if i, err := image.Read(s); err != api.ErrForm || !isZero(i) {
				t.Errorf("%s %d: %v %d", where, n, i, err)
			}
		}
	}
	if _, err := image.Read(name + num(0) + num(1) + segment + num(0) + num(0) + num(0)); err != api.OK {
		t.Errorf("with right numbers: %d", err)
	}
}

// B2: a bool is 1 or 0.
func TestReadOfWrongBools(t *testing.T) {
	for n := range 5 {
		for k := range 2 {
			flags := []string{num(1), num(1)}
			flags[k] = num(n)
			s := txt("a") + num(0) + num(2) + num(0) + num(1) + txt("") + num(0) + num(1) +
				num(1) + num(1) + txt("") + flags[0] + flags[1] + num(0) + num(0) + num(0)
			i, err := image.Read(s)
			if n > 1 {
				if err != api.ErrForm || !isZero(i) {
					t.Errorf("bool %d: %v %d", n, i, err)
				}
				continue
			}
			if err != api.OK || i.Segs[1].Write != (k == 1 || n == 1) || i.Segs[1].Exec != (k == 0 || n == 1) {
				t.Errorf("bool %d at %d: %v %d", n, k, i, err)
			}
		}
	}
}

// B2, P4: no bytes, and many that are no image.
func TestReadOfNoImage(t *testing.T) {
	for _, s := range []string{"", "\x00", num(0), "main", strings.Repeat("\x00", 4096), strings.Repeat("\xff", 4096), strings.Repeat("\x01", 1<<20), num(1<<20-8) + strings.Repeat("a", 1<<20), txt("a") + num(1<<16) + strings.Repeat(txt("b"), 1<<16)} {
		if i, err := image.Read(s); err != api.ErrForm || !isZero(i) {
			t.Errorf("Read of %d bytes: %v %d", len(s), i, err)
		}
	}
}

// spread gives each list spare room, filled with something that no call may touch.
func spread(i api.Image) (api.Image, func() api.Image) {
	needs := append(slices.Clone(i.Needs), "spare1", "spare2")
	segs := append(slices.Clone(i.Segs), api.Seg{Page: -7, Data: "spare"}, api.Seg{Page: -8})
	syms := append(slices.Clone(i.Syms), api.Sym{Name: "spare", At: -7}, api.Sym{At: -8})
	rels := append(slices.Clone(i.Rels), api.Rel{Name: "spare", At: -7}, api.Rel{At: -8})
	whole := func() api.Image {
		return api.Image{Needs: slices.Clone(needs), Segs: slices.Clone(segs), Syms: slices.Clone(syms), Rels: slices.Clone(rels)}
	}
	i.Needs, i.Segs, i.Syms, i.Rels = needs[:len(i.Needs)], segs[:len(i.Segs)], syms[:len(i.Syms)], rels[:len(i.Rels)]
	return i, whole
}

// P2
func TestImageIsOnlyRead(t *testing.T) {
	groups := append([]change{}, rightOnes...)
	for _, g := range wrongs {
		groups = append(groups, g.ones...)
	}
	for _, c := range groups {
		i, whole := spread(changed(c))
		before := whole()
		image.Check(i)
		image.Write(i)
		if !reflect.DeepEqual(whole(), before) {
			t.Errorf("%s: what was handed in was changed", c.name)
		}
	}
}

// P2, P3: a change of what was handed in, or of an answer, is not seen by a later answer.
func TestImageIsNotKept(t *testing.T) {
	i := fine()
	s := mustWrite(t, i)
	a, _ := image.Read(s)
	b, _ := image.Read(s)
	i.Needs[0], i.Segs[0].Data, i.Syms[0].Name, i.Rels[0].Add = "x", "x", "x", 9
	clear(a.Needs[:cap(a.Needs)])
	clear(a.Segs[:cap(a.Segs)])
	clear(a.Syms[:cap(a.Syms)])
	clear(a.Rels[:cap(a.Rels)])
	if !same(b, fine()) {
		t.Errorf("the second answer changed: %v", b)
	}
	if c, err := image.Read(s); err != api.OK || !same(c, fine()) {
		t.Errorf("the third answer: %v %d", c, err)
	}
	if again := mustWrite(t, fine()); again != s {
		t.Errorf("written again: %x", again)
	}
	image.Read("no image")
	image.Write(api.Image{})
	if again := mustWrite(t, fine()); again != s || image.Check(fine()) != api.OK {
		t.Errorf("written behind an error: %x", again)
	}
}
