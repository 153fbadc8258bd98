// Package copies: a kernel in memory of its own, for the calls that must not touch what they are handed.
package copies

import (
	"slices"

	"foliant/api"
)

// Kernel: no list of it is shared with k.
func Kernel(k api.Kernel) api.Kernel {
	c := api.Kernel{
		Sheets: slices.Clone(k.Sheets),
		Frames: slices.Clone(k.Frames),
		Slots:  slices.Clone(k.Slots),
		Hand:   k.Hand,
	}
	for n, s := range c.Sheets {
		c.Sheets[n].Fixes = slices.Clone(s.Fixes)
	}
	for _, s := range k.Spaces {
		c.Spaces = append(c.Spaces, Space(s))
	}
	return c
}

// Space: no list of it is shared with s.
func Space(s api.Space) api.Space {
	return api.Space{Live: s.Live, Areas: slices.Clone(s.Areas), Entries: slices.Clone(s.Entries)}
}
