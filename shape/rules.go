package shape

import "palisade/api"

// broken is the number of the first rule that f, a function of the formed class c, breaks; 0, if it is well formed.
func broken(c api.Class, f api.Func) int {
	switch {
	case !countsHold(f):
		return 1
	case !codeHolds(c, f):
		return 2
	case !handlersHold(f):
		return 3
	case !regionsHold(f):
		return 4
	}
	return 0
}

func countsHold(f api.Func) bool {
	return len(f.Code) > 0 && len(f.Points) == len(f.Code) && f.Slots > len(f.Caps)
}

// codeHolds lets no OpJump be the last instruction: it goes forward, and there is nothing to go to.
func codeHolds(c api.Class, f api.Func) bool {
	for at := range f.Code {
		if !numberHolds(c, f, at) {
			return false
		}
	}
	last := f.Code[len(f.Code)-1].Op
	return last == api.OpReturn || last == api.OpRaise
}

// numberHolds tells whether there is what the number of the instruction at points to.
func numberHolds(c api.Class, f api.Func, at int) bool {
	a := f.Code[at].A
	switch f.Code[at].Op {
	case api.OpLoad, api.OpStore:
		return between(a, 0, f.Slots)
	case api.OpClose:
		return between(a, 0, len(c.Funcs))
	case api.OpOut:
		return between(a, 0, len(c.Lattice.Names))
	case api.OpJump, api.OpUnless:
		return between(a, at+1, len(f.Code))
	}
	return true
}

func handlersHold(f api.Func) bool {
	for _, h := range f.Handlers {
		if h.From >= h.To || h.To > h.At || h.At >= len(f.Code) {
			return false
		}
	}
	return true
}

func regionsHold(f api.Func) bool {
	ahead := -1
	for _, r := range f.Regions {
		if r.At <= ahead || r.At >= len(f.Code) || !joinHolds(r, len(f.Code)) || !placesHold(r, len(f.Code)) {
			return false
		}
		ahead = r.At
	}
	return true
}

func joinHolds(r api.Region, n int) bool {
	return r.Join == api.None || r.Join > r.At && r.Join < n
}

// placesHold asks each place to be above the one ahead of it, the first one to be above At: so all are.
func placesHold(r api.Region, n int) bool {
	ahead := r.At
	for _, place := range r.Places {
		if place <= ahead || place >= n || place == r.Join {
			return false
		}
		ahead = place
	}
	return true
}

// between tells whether a is at least from and below to.
func between(a int64, from, to int) bool {
	return a >= int64(from) && a < int64(to)
}
