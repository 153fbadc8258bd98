// Package fault: why bytes can't be reached (promise E4), for the kernel and the flat machine alike.
package fault

import (
	"foliant/api"
	"foliant/area"
)

const instrSize = 8 // an instruction begins at a multiple of it

// Of: what is told of size bytes from addr on, in a space of these areas; zero, if they may be reached.
// addr + n can't go round: no byte near the greatest int is mapped, so that the first one is told.
func Of(l []api.Area, addr, size, way int) api.Fault {
	if way == api.ToRun && addr%instrSize != 0 {
		return api.Fault{Kind: api.FaultAlign, Addr: addr}
	}
	for n := range size {
		at := addr + n
		a, ok := area.Find(l, at/api.PageSize)
		if at < 0 || !ok {
			return api.Fault{Kind: api.FaultMap, Addr: at}
		}
		if a.Prot&right(way) != right(way) {
			return api.Fault{Kind: api.FaultRight, Addr: at}
		}
	}
	return api.Fault{}
}

// right is what an area must have in its Prot; to read needs nothing.
func right(way int) int {
	switch way {
	case api.ToWrite:
		return api.Write
	case api.ToRun:
		return api.Exec
	}
	return 0
}
