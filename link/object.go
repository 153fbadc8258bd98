package link

import (
	"slices"

	"foliant/api"
	"foliant/area"
	"foliant/image"
)

// firstBase: page 0 is never mapped.
const firstBase = 1

// object is an image that is linked; its page 0 lies at base.
type object struct {
	api.Image
	base int
}

// end is the page behind the last one.
func (o object) end() int {
	last := o.Segs[len(o.Segs)-1]
	return o.base + last.Page + last.Pages
}

func (o object) address(at int) int { return o.base*api.PageSize + at }

// symbol: the address of that name, if the object has it.
func (o object) symbol(name string) (int, bool) {
	n := slices.IndexFunc(o.Syms, func(s api.Sym) bool { return s.Name == name })
	if n < 0 {
		return 0, false
	}
	return o.address(o.Syms[n].At), true
}

// byName goes through all images twice, as what is wrong with one of them is told ahead of names that stand twice.
func byName(all []api.Image) (map[string]api.Image, api.Errno) {
	for _, i := range all {
		if err := image.Check(i); err != api.OK {
			return nil, err
		}
	}
	named := map[string]api.Image{}
	for _, i := range all {
		named[i.Name] = i
	}
	if len(named) < len(all) {
		return nil, api.ErrThere
	}
	return named, api.OK
}

// gather: the objects, main first; false, if one of them needs what is not named.
func gather(main api.Image, named map[string]api.Image) ([]object, bool) {
	objects := []object{{Image: main, base: firstBase}}
	// Not range: what is needed comes behind the objects that are still to be gone through.
	for n := 0; n < len(objects); n++ {
		for _, need := range objects[n].Needs {
			i, ok := named[need]
			if !ok {
				return nil, false
			}
			if !slices.ContainsFunc(objects, func(o object) bool { return o.Name == need }) {
				objects = append(objects, object{Image: i, base: objects[len(objects)-1].end()})
			}
		}
	}
	return objects, true
}

// areasOf lets Map join neighbours that are alike; that all are Zero there, and none in the end, joins the same ones.
func areasOf(objects []object) []api.Area {
	var l []api.Area
	for _, o := range objects {
		for _, s := range o.Segs {
			l, _ = area.Map(l, o.base+s.Page, s.Pages, prot(s)) // no two segments have one page, and all are in range
		}
	}
	for n := range l {
		l[n].Zero = false
	}
	return l
}

func prot(s api.Seg) int {
	p := 0
	if s.Write {
		p |= api.Write
	}
	if s.Exec {
		p |= api.Exec
	}
	return p
}
