package verify

import (
	"palisade/api"
	"palisade/flow"
	"palisade/lattice"
	"palisade/regions"
	"palisade/shape"
	"palisade/types"
)

// judge is what is alike at all places of one function, own, of a well formed class. Of its places calls tells which are calls that may raise.
type judge struct {
	class  api.Class
	own    api.Func
	bottom int
	calls  []bool
}

// refused is the first place that isn't accepted, or nowhere.
func (j *judge) refused() int {
	if !j.fits(beginning(j.own), 0) {
		return 0
	}
	for at := range j.own.Code {
		if !j.accepts(at) {
			return at
		}
	}
	return nowhere
}

func (j *judge) accepts(at int) bool {
	s, ok := j.begin(at)
	return ok && s.done() && s.goesOn() && s.caught() && s.contained()
}

// step is one instruction that is asked: at which place, with which Env, what it takes off the stack, and what it leaves. K and P are None, where there is none.
type step struct {
	*judge
	at, env int
	ins     api.Ins
	taken   []api.Type
	after   state
	k, p    int
}

// begin takes off the stack what the instruction needs, and tells whether there is as much.
func (j *judge) begin(at int) (*step, bool) {
	point := j.own.Points[at]
	needs, _ := shape.Pops(j.own, j.class, at)
	left := len(point.Stack) - needs
	if left < 0 {
		return nil, false
	}
	return &step{
		judge: j, at: at, env: point.Env, ins: j.own.Code[at],
		taken: point.Stack[left:], after: keeping(point, left),
		k: api.None, p: api.None,
	}, true
}

// goesOn tells whether the state fits the points of all places to which it goes on, if nothing is raised.
func (s *step) goesOn() bool {
	for _, to := range flow.Ways(api.Func{Code: s.own.Code}, nil, s.at) {
		if !s.fits(s.after, to) {
			return false
		}
	}
	return true
}

// caught tells whether what is raised fits the point of its handler, or may leave the function.
func (s *step) caught() bool {
	if s.p == api.None {
		return true
	}
	handler := flow.Handler(s.own, s.at)
	if handler == api.None {
		return s.leq(s.own.Exc, s.p)
	}
	raised := api.Type{Kind: api.Int, Label: s.p}
	return s.fits(state{stack: []api.Type{raised}, slots: s.own.Points[s.at].Slots}, handler)
}

// contained tells whether there is a region for what hangs on which way the place goes.
func (s *step) contained() bool {
	if s.k == api.None {
		return true
	}
	for _, r := range s.own.Regions {
		if r.At == s.at {
			return regions.Holds(s.own, s.calls, r) == 0 && s.secret(r.Places)
		}
	}
	return false
}

// secret tells whether K is below the Env of each of those places.
func (s *step) secret(places []int) bool {
	for _, at := range places {
		if !s.leq(s.own.Points[at].Env, s.k) {
			return false
		}
	}
	return true
}

// leq tells whether all these labels are below the bound. Nothing is below None.
func (j *judge) leq(bound int, labels ...int) bool {
	for _, label := range labels {
		if !lattice.Leq(j.class.Lattice, label, bound) {
			return false
		}
	}
	return true
}

// both is the join of two labels, or the one of them that isn't None.
func (j *judge) both(a, b int) int {
	return lattice.Both(j.class.Lattice, a, b)
}

func (j *judge) raise(t api.Type, label int) api.Type {
	return types.Raise(j.class.Lattice, t, label)
}
