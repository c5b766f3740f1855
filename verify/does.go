package verify

import "palisade/api"

// done does the instruction, and tells whether it may be done; what is wrong of what it pushes shows itself by its type, which fits no point then.
func (s *step) done() bool {
	switch s.ins.Op {
	case api.OpStore:
		s.after.slots[s.ins.A] = s.raise(s.taken[0], s.env)
		return true
	case api.OpPop, api.OpJump:
		return true
	case api.OpSet:
		return s.sets()
	case api.OpOut:
		return s.tells()
	case api.OpUnless:
		s.branch(s.both(s.taken[0].Label, s.env))
		return s.taken[0].Kind == api.Bool
	case api.OpRaise:
		s.p = s.both(s.taken[0].Label, s.env)
		return s.taken[0].Kind == api.Int
	case api.OpReturn:
		return len(s.after.stack) == 0 && s.below(s.raise(s.taken[0], s.env), s.own.Result)
	}
	t, k := s.makes()
	if k != api.None {
		s.branch(k)
		s.p = k
	}
	s.after.stack = append(s.after.stack, s.raise(t, s.both(s.env, k)))
	return true
}

// branch raises by K what is left on the stack: what is behind tells of it which way was gone.
func (s *step) branch(k int) {
	s.k = k
	for i, t := range s.after.stack {
		s.after.stack[i] = s.raise(t, k)
	}
}

func (s *step) sets() bool {
	ref, given := s.taken[0], s.taken[1]
	if ref.Kind != api.Ref {
		return false
	}
	holds := ref.Parts[0]
	return s.below(s.raise(given, s.env), holds) && s.leq(holds.Label, ref.Label, s.env, s.own.Heap)
}

func (s *step) tells() bool {
	told := s.taken[0]
	return told.Kind == api.Int && s.leq(int(s.ins.A), told.Label, s.env, s.own.Heap)
}
