package class

import (
	"palisade/api"
	"palisade/lattice"
)

// maxShort is the greatest short.
const maxShort = 1<<16 - 1

// What an instruction has beside its Op.
const (
	nothing = iota
	anyLong
	truth
	anyShort
	aType
)

// operands is what an instruction of each Op has.
var operands = [...]int{
	api.OpInt:    anyLong,
	api.OpBool:   truth,
	api.OpLoad:   anyShort,
	api.OpStore:  anyShort,
	api.OpClose:  anyShort,
	api.OpNew:    aType,
	api.OpOut:    anyShort,
	api.OpJump:   anyShort,
	api.OpUnless: anyShort,
	api.OpReturn: nothing,
}

// gather tells whether c is formed, and its pool then: types are asked in the order in which the pool has them.
func gather(c api.Class) (*pool, bool) {
	if !lattice.Formed(c.Lattice) || len(c.Funcs) == 0 || len(c.Funcs) > api.MaxFuncs {
		return nil, false
	}
	p := &pool{lattice: c.Lattice, places: map[node]int{}}
	if !all(c.Funcs, p.functionFormed) {
		return nil, false
	}
	return p, true
}

func (p *pool) functionFormed(f api.Func) bool {
	return p.boundsFormed(f) && fewEnough(f) &&
		p.takes(f.Param) && p.takes(f.Result) && p.takesAll(f.Caps) &&
		all(f.Code, p.instructionFormed) && p.pointsFormed(f) &&
		all(f.Handlers, handlerFormed) && all(f.Regions, regionFormed)
}

func (p *pool) boundsFormed(f api.Func) bool {
	return p.isLabel(f.Heap) && (f.Exc == api.None || p.isLabel(f.Exc)) && f.Slots >= 1 && f.Slots <= api.MaxSlots
}

func fewEnough(f api.Func) bool {
	return len(f.Caps) <= api.MaxCaps && max(len(f.Code), len(f.Handlers), len(f.Points), len(f.Regions)) <= api.MaxCode
}

func (p *pool) instructionFormed(i api.Ins) bool {
	if i.Op < api.OpInt || i.Op > api.OpReturn {
		return false
	}
	has := operands[i.Op]
	if has == aType {
		return i.A == 0 && p.takes(i.T)
	}
	return isZero(i.T) && numberFormed(has, i.A)
}

func numberFormed(has int, a int64) bool {
	switch has {
	case anyLong:
		return true
	case truth:
		return a == 0 || a == 1
	case anyShort:
		return a >= 0 && a <= maxShort
	}
	return a == 0
}

func (p *pool) pointsFormed(f api.Func) bool {
	var ahead []api.Type
	for _, at := range f.Points {
		if len(at.Stack) > api.MaxStack || len(at.Slots) != f.Slots || !p.isLabel(at.Env) ||
			!p.takesAll(at.Stack) || !p.slotsFormed(at.Slots, ahead) {
			return false
		}
		ahead = at.Slots
	}
	return true
}

// slotsFormed is given also the slots of the point ahead, which are formed, if there is one: mostly a slot's type is the one that it has there, and that is sooner seen than its place is found.
func (p *pool) slotsFormed(slots, ahead []api.Type) bool {
	for i := range slots {
		if i < len(ahead) && alike(&slots[i], &ahead[i]) {
			continue
		}
		if !isZero(slots[i]) && !p.takes(slots[i]) {
			return false
		}
	}
	return true
}

// alike tells what layer 2's Same does, but ends only because one of both is formed or zero.
func alike(s, t *api.Type) bool {
	if s.Kind != t.Kind || s.Label != t.Label || s.Heap != t.Heap || s.Exc != t.Exc || len(s.Parts) != len(t.Parts) {
		return false
	}
	for i := range s.Parts {
		if !alike(&s.Parts[i], &t.Parts[i]) {
			return false
		}
	}
	return true
}

func handlerFormed(h api.Handler) bool {
	return isShort(h.From) && isShort(h.To) && isShort(h.At)
}

// regionFormed lets in just those Joins of which one more is a short, None among them: that is how they are written.
func regionFormed(r api.Region) bool {
	return isShort(r.At) && isShort(r.Join+1) && len(r.Places) <= api.MaxCode && all(r.Places, isShort)
}

func isShort(n int) bool {
	return n >= 0 && n <= maxShort
}

func (p *pool) isLabel(n int) bool {
	return n >= 0 && n < len(p.lattice.Names)
}

func isZero(t api.Type) bool {
	return t.Kind == 0 && t.Label == 0 && len(t.Parts) == 0 && t.Heap == 0 && t.Exc == 0
}

// all tells whether it holds of each.
func all[T any](list []T, holds func(T) bool) bool {
	for _, v := range list {
		if !holds(v) {
			return false
		}
	}
	return true
}
