package bits_test

import (
	"encoding/binary"
	"math"
	"strings"
	"testing"
	"unsafe"

	"foliant/api"
	"foliant/bits"
)

var numbers = []int{
	0, 1, 2, 127, 128, 255, 256, 257, 513, 65535, 65536, 1<<24 - 1, 1 << 24, 1<<31 - 1, 1 << 31, 1<<32 - 1, 1 << 32,
	1 << 40, 1<<48 - 1, 1 << 56, 1<<56 - 1, 0x0807060504030201, math.MaxInt - 1, math.MaxInt,
	-1, -2, -128, -129, -256, -257, -65536, -1 << 31, -1<<31 - 1, -1 << 32, -1 << 56, math.MinInt + 1, math.MinInt,
}

// A1
func TestPutLowestFirst(t *testing.T) {
	for _, n := range numbers {
		whole := binary.LittleEndian.AppendUint64(nil, uint64(n))
		for size := 1; size <= 8; size++ {
			s, err := bits.Put(n, size)
			if err != api.OK || s != string(whole[:size]) {
				t.Errorf("Put(%d, %d): %x %d, must be %x", n, size, s, err, whole[:size])
			}
		}
	}
}

// A1, and the document's first example
func TestPutAndGetOfExamples(t *testing.T) {
	if s, err := bits.Put(-2, 3); s != "\xfe\xff\xff" || err != api.OK {
		t.Errorf("Put(-2, 3): %x %d", s, err)
	}
	if n, err := bits.Get("\x01\x02"); n != 513 || err != api.OK {
		t.Errorf("Get of 01 02: %d %d", n, err)
	}
}

// A1, P1
func TestPutOfWrongSize(t *testing.T) {
	for _, size := range []int{0, -1, 9, 10, 16, 64, 256, 257, math.MaxInt, math.MinInt, math.MinInt + 8} {
		for _, n := range numbers {
			if s, err := bits.Put(n, size); s != "" || err != api.ErrRange {
				t.Errorf("Put(%d, %d): %x %d", n, size, s, err)
			}
		}
	}
}

// A1
func TestGet(t *testing.T) {
	for _, c := range []struct {
		s    string
		want int
	}{
		{"\x00", 0}, {"\x80", 128}, {"\xff", 255}, {"\x00\x80", 32768}, {"\xff\xff", 65535},
		{"\x01\x02\x03", 0x030201}, {"\xff\xff\xff\xff", 1<<32 - 1}, {"\x00\x00\x00\x80", 1 << 31},
		{"\x01\x02\x03\x04\x05", 0x0504030201}, {"\x01\x02\x03\x04\x05\x06", 0x060504030201},
		{"\x01\x02\x03\x04\x05\x06\x87", 0x87060504030201}, {"\xff\xff\xff\xff\xff\xff\xff", 1<<56 - 1},
		{"\x01\x02\x03\x04\x05\x06\x07\x08", 0x0807060504030201},
		{"\xff\xff\xff\xff\xff\xff\xff\x7f", math.MaxInt},
		{"\x00\x00\x00\x00\x00\x00\x00\x80", math.MinInt},
		{"\xff\xff\xff\xff\xff\xff\xff\xff", -1}, {"\xfe\xff\xff\xff\xff\xff\xff\xff", -2},
	} {
		if n, err := bits.Get(c.s); n != c.want || err != api.OK {
			t.Errorf("Get(%x): %d %d, must be %d", c.s, n, err, c.want)
		}
	}
}

// A1, P1
func TestGetOfWrongSize(t *testing.T) {
	for _, s := range []string{"", "123456789", strings.Repeat("\x00", 16), strings.Repeat("x", 256), strings.Repeat("\x01", 257)} {
		if n, err := bits.Get(s); n != 0 || err != api.ErrRange {
			t.Errorf("Get of %d bytes: %d %d", len(s), n, err)
		}
	}
}

// within counts with floats, which can't go round, so that it is no twin of what is tested.
func within(length, off, n int) bool {
	return off >= 0 && n >= 0 && float64(off)+float64(n) <= float64(length)
}

var places = []int{math.MinInt, math.MinInt + 1, math.MinInt + 4, -5, -4, -1, 0, 1, 2, 3, 4, 5, 8, math.MaxInt - 4, math.MaxInt - 3, math.MaxInt - 1, math.MaxInt}

// A2, P1
func TestPart(t *testing.T) {
	for _, s := range []string{"", "a", "abcd", "\x00\xff\n\x80"} {
		for _, off := range places {
			for _, n := range places {
				want, wantErr := "", api.ErrRange
				if within(len(s), off, n) {
					want, wantErr = s[off:][:n], api.OK
				}
				if p, err := bits.Part(s, off, n); p != want || err != wantErr {
					t.Errorf("Part(%q, %d, %d): %q %d, must be %q %d", s, off, n, p, err, want, wantErr)
				}
			}
		}
	}
}

// A2, A3, P1
func TestLay(t *testing.T) {
	for _, s := range []string{"", "a", "abcd", "\x00\xff\n\x80"} {
		for _, off := range places {
			for _, over := range []string{"", "x", "yz", "\xfe\x00\x01", "wxyz", "vwxyz"} {
				laid, err := bits.Lay(s, off, over)
				if !within(len(s), off, len(over)) {
					if laid != "" || err != api.ErrRange {
						t.Errorf("Lay(%q, %d, %q): %q %d", s, off, over, laid, err)
					}
					continue
				}
				if want := s[:off] + over + s[off+len(over):]; laid != want || err != api.OK {
					t.Errorf("Lay(%q, %d, %q): %q %d, must be %q", s, off, over, laid, err, want)
				}
			}
		}
	}
}

// A3
func TestGetOfPutIsTheNumber(t *testing.T) {
	for _, n := range numbers {
		for size := 1; size <= 8; size++ {
			s, _ := bits.Put(n, size)
			want := n
			if size < 8 {
				want = n & (1<<(8*size) - 1)
			}
			if got, err := bits.Get(s); got != want || err != api.OK {
				t.Errorf("Get(Put(%d, %d)): %d %d", n, size, got, err)
			}
			if back, _ := bits.Put(want, size); back != s {
				t.Errorf("Put(Get(%x)): %x", s, back)
			}
		}
	}
}

// A3
func TestPartOfLayIsWhatWasLaid(t *testing.T) {
	s := "0123456789abcdef"
	for off := 0; off <= len(s); off++ {
		for n := 0; off+n <= len(s); n++ {
			over := strings.Repeat("#", n)
			laid, err := bits.Lay(s, off, over)
			if err != api.OK || len(laid) != len(s) {
				t.Fatalf("Lay at %d, %d bytes: %q %d", off, n, laid, err)
			}
			if p, _ := bits.Part(laid, off, n); p != over {
				t.Errorf("the part at %d, %d bytes: %q", off, n, p)
			}
			ahead, _ := bits.Part(laid, 0, off)
			behind, _ := bits.Part(laid, off+n, len(s)-off-n)
			if ahead != s[:off] || behind != s[off+n:] {
				t.Errorf("beside what was laid at %d, %d bytes: %q %q", off, n, ahead, behind)
			}
		}
	}
}

// overlaps tells if two texts lie in the same memory, in part at least.
func overlaps(a, b string) bool {
	x, y := uintptr(unsafe.Pointer(unsafe.StringData(a))), uintptr(unsafe.Pointer(unsafe.StringData(b)))
	return x < y+uintptr(len(b)) && y < x+uintptr(len(a))
}

// P2
func TestAnswersAreNewMemory(t *testing.T) {
	s, over := strings.Repeat("abcd", 20), strings.Repeat("x", 80)
	for _, c := range [][2]int{{0, 80}, {0, 40}, {40, 40}, {7, 1}} {
		if p, err := bits.Part(s, c[0], c[1]); err != api.OK || overlaps(p, s) {
			t.Errorf("Part at %d, %d bytes, shares memory, or error %d", c[0], c[1], err)
		}
	}
	for _, off := range []int{0, 5, 80} {
		if l, err := bits.Lay(s, off, ""); err != api.OK || overlaps(l, s) {
			t.Errorf("Lay of nothing at %d shares memory, or error %d", off, err)
		}
	}
	if l, err := bits.Lay(s, 0, over); err != api.OK || overlaps(l, s) || overlaps(l, over) {
		t.Errorf("Lay over all shares memory, or error %d", err)
	}
}

// P3
func TestBitsAnswerTheSameEachTime(t *testing.T) {
	for range 3 {
		bits.Lay("zzzz", 1, "yy")
		bits.Put(77, 8)
		if s, _ := bits.Put(258, 2); s != "\x02\x01" {
			t.Errorf("Put(258, 2): %x", s)
		}
		if s, _ := bits.Lay("abc", 1, "x"); s != "axc" {
			t.Errorf("Lay: %q", s)
		}
	}
}

// P4
func TestPartAndLayOfManyBytes(t *testing.T) {
	s := strings.Repeat("0123456789abcdef", 1<<16)
	laid, err := bits.Lay(s, len(s)-3, "xyz")
	if err != api.OK || laid != s[:len(s)-3]+"xyz" {
		t.Errorf("Lay at the end of %d bytes: %d", len(s), err)
	}
	if p, err := bits.Part(laid, len(s)-4, 4); p != "cxyz" || err != api.OK {
		t.Errorf("Part at the end of %d bytes: %q %d", len(s), p, err)
	}
	if p, err := bits.Part(s, 0, len(s)); p != s || err != api.OK {
		t.Errorf("Part of all %d bytes: %d", len(s), err)
	}
}
