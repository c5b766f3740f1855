package verify

import (
	"palisade/api"
	"palisade/types"
)

// state is the types on the stack, and those of the slots, zero where there is none.
type state struct {
	stack, slots []api.Type
}

// beginning is the state in which a function begins.
func beginning(f api.Func) state {
	s := state{slots: make([]api.Type, f.Slots)}
	s.slots[0] = f.Param
	copy(s.slots[1:], f.Caps)
	return s
}

// keeping is the point's state with so many types left on the stack. It is copied, since the certificate isn't to be changed with it.
func keeping(p api.Point, left int) state {
	s := state{stack: make([]api.Type, left), slots: make([]api.Type, len(p.Slots))}
	copy(s.stack, p.Stack)
	copy(s.slots, p.Slots)
	return s
}

// fits tells whether the state fits the point of that place. A slot that the point leaves empty may be anything.
func (j *judge) fits(s state, at int) bool {
	point := j.own.Points[at]
	if len(s.stack) != len(point.Stack) {
		return false
	}
	for i, t := range s.stack {
		if !j.below(t, point.Stack[i]) {
			return false
		}
	}
	for i, t := range s.slots {
		if point.Slots[i].Kind != 0 && !j.below(t, point.Slots[i]) {
			return false
		}
	}
	return true
}

// below tells whether s is below t, which is formed. Mostly both are the same, and that is sooner seen.
func (j *judge) below(s, t api.Type) bool {
	return types.Same(s, t) || types.Below(j.class.Lattice, s, t)
}
