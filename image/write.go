package image

import (
	"foliant/api"
	"foliant/bits"
)

// numberSize is how many bytes a number has in an image's bytes.
const numberSize = 8

// writer has the bytes that were written so far.
type writer struct{ b []byte }

func (w *writer) image(i api.Image) {
	w.text(i.Name)
	w.numbers(len(i.Needs))
	for _, n := range i.Needs {
		w.text(n)
	}
	w.numbers(len(i.Segs))
	for _, s := range i.Segs {
		w.numbers(s.Page, s.Pages)
		w.text(s.Data)
		w.numbers(flag(s.Write), flag(s.Exec))
	}
	w.numbers(len(i.Syms))
	for _, s := range i.Syms {
		w.text(s.Name)
		w.numbers(s.At)
	}
	w.numbers(len(i.Rels))
	for _, r := range i.Rels {
		w.numbers(r.At)
		w.text(r.Name)
		w.numbers(r.Add)
	}
	w.numbers(i.Entry)
}

// numbers writes the numbers one behind the other.
func (w *writer) numbers(all ...int) {
	for _, n := range all {
		s, _ := bits.Put(n, numberSize) // numberSize is a size that Put takes
		w.b = append(w.b, s...)
	}
}

func (w *writer) text(s string) {
	w.numbers(len(s))
	w.b = append(w.b, s...)
}

func flag(b bool) int {
	if b {
		return 1
	}
	return 0
}
