package conv

import (
	"slices"

	"palisade/api"
	"palisade/check"
)

// scope is the names that stand in a place, with their types, and with the slots that hold them: None, where the place isn't come to.
type scope struct {
	binds []check.Bind
	slots []int
}

// with is the same scope with a name behind all others. The lists are clipped because the scope that it began with is still in use.
func (s scope) with(name string, t api.Type, slot int) scope {
	return scope{
		append(slices.Clip(s.binds), check.Bind{Name: name, Type: t}),
		append(slices.Clip(s.slots), slot),
	}
}

// find is where a name's last one stands. There is one: in an accepted program all names have types.
func (s scope) find(name string) int {
	i := len(s.binds) - 1
	for s.binds[i].Name != name {
		i--
	}
	return i
}
