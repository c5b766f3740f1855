package verify

import (
	"palisade/api"
	"palisade/value"
)

// makes is what the instruction pushes, which isn't raised yet, and its K, or None; all of those that push something with a K may raise. Where the instruction isn't right that is the zero type, which is below none.
func (s *step) makes() (api.Type, int) {
	switch s.ins.Op {
	case api.OpInt:
		return s.plain(api.Int), api.None
	case api.OpBool:
		return s.plain(api.Bool), api.None
	case api.OpLoad:
		return s.after.slots[s.ins.A], api.None
	case api.OpNot:
		return only(api.Bool, s.taken[0]), api.None
	case api.OpPair:
		return api.Type{Kind: api.Pair, Label: s.bottom, Parts: s.taken}, api.None
	case api.OpFirst:
		return s.side(0), api.None
	case api.OpSecond:
		return s.side(1), api.None
	case api.OpClose:
		return s.closed(), api.None
	case api.OpSelf:
		return value.TypeOf(s.class.Lattice, s.own), api.None
	case api.OpCall:
		return s.called()
	case api.OpNew:
		return s.cell(), api.None
	case api.OpGet:
		return s.held(), api.None
	}
	return s.reckoned()
}

// plain is an Int or a Bool of the bottom.
func (j *judge) plain(kind int) api.Type {
	return api.Type{Kind: kind, Label: j.bottom}
}

// only is t, if it is of that Kind, else the zero type.
func only(kind int, t api.Type) api.Type {
	if t.Kind != kind {
		return api.Type{}
	}
	return t
}

func (s *step) reckoned() (api.Type, int) {
	first, second := s.taken[0], s.taken[1]
	if first.Kind != api.Int || second.Kind != api.Int {
		return api.Type{}, api.None
	}
	made := api.Type{Kind: api.Int, Label: s.both(first.Label, second.Label)}
	switch s.ins.Op {
	case api.OpLess, api.OpSame:
		made.Kind = api.Bool
	case api.OpDiv, api.OpMod:
		return made, s.both(second.Label, s.env)
	}
	return made, api.None
}

func (s *step) side(side int) api.Type {
	pair := s.taken[0]
	if pair.Kind != api.Pair {
		return api.Type{}
	}
	return s.raise(pair.Parts[side], pair.Label)
}

func (s *step) closed() api.Type {
	f := s.class.Funcs[s.ins.A]
	for i, captured := range s.taken {
		if !s.below(captured, f.Caps[i]) {
			return api.Type{}
		}
	}
	return value.TypeOf(s.class.Lattice, f)
}

func (s *step) called() (api.Type, int) {
	f, given := s.taken[0], s.taken[1]
	if f.Kind != api.Fun || !s.below(given, f.Parts[0]) {
		return api.Type{}, api.None
	}
	l := s.both(f.Label, s.env)
	if !s.leq(f.Heap, l, s.own.Heap) {
		return api.Type{}, api.None
	}
	k := api.None
	if f.Exc != api.None {
		k = s.both(f.Exc, l)
	}
	return s.raise(f.Parts[1], l), k
}

func (s *step) cell() api.Type {
	if !s.below(s.taken[0], s.ins.T) {
		return api.Type{}
	}
	return api.Type{Kind: api.Ref, Label: s.bottom, Parts: []api.Type{s.ins.T}}
}

func (s *step) held() api.Type {
	ref := s.taken[0]
	if ref.Kind != api.Ref {
		return api.Type{}
	}
	return s.raise(ref.Parts[0], ref.Label)
}
