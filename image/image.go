// Package image: images: see doc/02-image.md.
package image

import "foliant/api"

// Check: the first error of the image.
func Check(i api.Image) api.Errno {
	switch {
	case !rightNames(i):
		return api.ErrName
	case !rightCounts(i):
		return api.ErrMany
	case !rightRanges(i.Segs):
		return api.ErrRange
	case overlap(i.Segs) || twice(i.Needs) || twice(symNames(i.Syms)):
		return api.ErrThere
	case !symsPlaced(i) || !relsPlaced(i) || !entryPlaced(i):
		return api.ErrNone
	}
	return api.OK
}

// Write: the image as bytes.
func Write(i api.Image) (string, api.Errno) {
	if err := Check(i); err != api.OK {
		return "", err
	}
	var w writer
	w.image(i)
	return string(w.b), api.OK
}

// Read: the image of which these are the bytes.
func Read(s string) (i api.Image, err api.Errno) {
	defer func() {
		if recover() != nil {
			i, err = api.Image{}, api.ErrForm
		}
	}()
	r := reader{s: s}
	i = r.image()
	r.end()
	// Only an image that may be has bytes at all.
	r.must(Check(i) == api.OK)
	return i, api.OK
}
