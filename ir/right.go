package ir

import (
	"palisade/api"
	"palisade/ops"
	"palisade/types"
)

// judge is what is alike at all nodes of one function, fn, which is shaped as all others are.
type judge struct {
	lattice api.Lattice
	bottom  int
	fns     []Fn
	fn      Fn
}

// state is what is known between two nodes: AT, X, and which slots are set. It is gone, if it isn't come to that place.
type state struct {
	at, x int
	set   [api.MaxSlots]bool
	gone  bool
}

func (j judge) right() bool {
	s := state{at: j.bottom, x: api.None}
	for slot := range 1 + len(j.fn.Caps) {
		s.set[slot] = true
	}
	s, ok := j.list(j.fn.Body, s)
	return ok && j.end(s)
}

// end asks what must hold at the function's end.
func (j judge) end(s state) bool {
	if s.x != api.None && !j.below(j.fn.Exc, s.x) {
		return false
	}
	out := j.fn.Out
	if s.gone || out == api.None {
		return s.gone && out == api.None
	}
	return s.set[out] && types.Below(j.lattice, j.raise(j.fn.Slots[out], s.at), j.fn.Result)
}

// list is the state behind nodes ahead of which it is that one, and whether all of them are right.
func (j judge) list(body []Node, s state) (state, bool) {
	for _, n := range body {
		if s.gone || !j.below(n.Env, s.at) || !s.has(reads(n)) {
			return state{}, false
		}
		var ok bool
		if s, ok = j.node(n, s); !ok {
			return state{}, false
		}
	}
	return s, true
}

func (s state) has(slots []int) bool {
	for _, slot := range slots {
		if !s.set[slot] {
			return false
		}
	}
	return true
}

// node asks what the node's own rule says; what is alike in all rules was asked.
func (j judge) node(n Node, s state) (state, bool) {
	switch n.Op {
	case ops.Set:
		return s, j.sets(n)
	case ops.Out:
		return s, j.tells(n)
	case ops.If:
		return j.choice(n, s)
	case ops.Try:
		return j.attempt(n, s)
	case ops.Raise:
		part := j.read(n, n.A)
		s.x, s.gone = j.both(s.x, part.Label), true
		return s, part.Kind == api.Int
	}
	t, k := j.makes(n)
	s.at, s.x = j.both(s.at, k), j.both(s.x, k)
	s.set[n.Dst] = true
	return s, types.Below(j.lattice, j.raise(t, j.both(n.Env, k)), j.fn.Slots[n.Dst])
}

func (j judge) sets(n Node) bool {
	ref, part := j.read(n, n.A), j.read(n, n.B)
	if ref.Kind != api.Ref {
		return false
	}
	holds := ref.Parts[0]
	return types.Below(j.lattice, part, holds) && j.below(holds.Label, ref.Label, j.fn.Heap)
}

func (j judge) tells(n Node) bool {
	part := j.read(n, n.A)
	return part.Kind == api.Int && j.below(int(n.N), part.Label, j.fn.Heap)
}

func (j judge) choice(n Node, s state) (state, bool) {
	asked := j.read(n, n.A)
	if asked.Kind != api.Bool {
		return state{}, false
	}
	begin := state{at: j.both(s.at, asked.Label), x: api.None, set: s.set}
	yes, yesRight := j.list(n.Body, begin)
	no, noRight := j.list(n.Else, begin)
	return j.junction(s, yes, no, j.both(yes.x, no.x)), yesRight && noRight
}

// attempt lets nothing of what Body raises go on: behind the node it is come to whether that raised or not.
func (j judge) attempt(n Node, s state) (state, bool) {
	tried, triedRight := j.list(n.Body, state{at: s.at, x: api.None, set: s.set})
	begin := state{at: j.both(s.at, tried.x), x: api.None, set: s.set}
	begin.set[n.Dst] = true
	raised := api.Type{Kind: api.Int, Label: begin.at}
	done, doneRight := j.list(n.Else, begin)
	return j.junction(s, tried, done, done.x), triedRight && doneRight && types.Below(j.lattice, raised, j.fn.Slots[n.Dst])
}

// junction is the state behind a node at which the ways parted, and out of which that is raised.
func (j judge) junction(ahead, one, other state, raised int) state {
	return state{
		at:   j.both(ahead.at, raised),
		x:    j.both(ahead.x, raised),
		set:  setByBoth(one, other),
		gone: one.gone && other.gone,
	}
}

// setByBoth takes a way that isn't come out of for nothing: whoever is behind both has gone the other one.
func setByBoth(one, other state) [api.MaxSlots]bool {
	if one.gone {
		return other.set
	}
	if other.gone {
		return one.set
	}
	for slot, set := range other.set {
		one.set[slot] = one.set[slot] && set
	}
	return one.set
}
