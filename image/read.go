package image

import (
	"foliant/api"
	"foliant/bits"
)

// wrong is what reading panics with, when the bytes are no image's; Read recovers it.
type wrong struct{}

// reader reads s, of which at bytes were read so far.
type reader struct {
	s  string
	at int
}

func (r *reader) image() api.Image {
	return api.Image{
		Name:  r.text(),
		Needs: list(r, api.MaxNeeds, r.text),
		Segs:  list(r, api.MaxSegs, r.seg),
		Syms:  list(r, api.MaxSyms, r.sym),
		Rels:  list(r, api.MaxRels, r.rel),
		Entry: r.number(),
	}
}

func (r *reader) seg() api.Seg {
	return api.Seg{Page: r.number(), Pages: r.number(), Data: r.text(), Write: r.flag(), Exec: r.flag()}
}

func (r *reader) sym() api.Sym {
	return api.Sym{Name: r.text(), At: r.number()}
}

func (r *reader) rel() api.Rel {
	return api.Rel{At: r.number(), Name: r.text(), Add: r.number()}
}

// list stops at a count that no image may have, ahead of making room for its elements.
func list[T any](r *reader, most int, one func() T) []T {
	n := r.number()
	r.must(n >= 0 && n <= most)
	var l []T
	for range n {
		l = append(l, one())
	}
	return l
}

func (r *reader) text() string { return r.take(r.number()) }

func (r *reader) number() int {
	n, err := bits.Get(r.take(numberSize))
	r.must(err == api.OK)
	return n
}

func (r *reader) flag() bool {
	n := r.number()
	r.must(n == 0 || n == 1)
	return n == 1
}

func (r *reader) take(n int) string {
	s, err := bits.Part(r.s, r.at, n)
	r.must(err == api.OK)
	r.at += n
	return s
}

func (r *reader) end() { r.must(r.at == len(r.s)) }

func (r *reader) must(ok bool) {
	if !ok {
		panic(wrong{})
	}
}
