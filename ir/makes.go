package ir

import (
	"palisade/api"
	"palisade/lattice"
	"palisade/ops"
	"palisade/types"
)

// makes is what a node makes, which isn't raised yet, and its K, or None. Where the node isn't right that is the zero type, which is below none.
func (j judge) makes(n Node) (api.Type, int) {
	switch n.Op {
	case ops.Int:
		return j.plain(api.Int), api.None
	case ops.Bool:
		return j.plain(api.Bool), api.None
	case ops.Copy:
		return j.read(n, n.A), api.None
	case ops.Reckon:
		return j.reckoned(n)
	case ops.Not:
		return only(api.Bool, j.read(n, n.A)), api.None
	case ops.Pair:
		return api.Type{Kind: api.Pair, Label: j.bottom, Parts: []api.Type{j.read(n, n.A), j.read(n, n.B)}}, api.None
	case ops.First:
		return j.side(n, 0), api.None
	case ops.Second:
		return j.side(n, 1), api.None
	case ops.Close:
		return j.closed(n), api.None
	case ops.Self:
		return Sig(j.lattice, j.fn), api.None
	case ops.Call:
		return j.called(n)
	case ops.New:
		return j.cell(n), api.None
	default: // Get: no other Op of a shaped node makes something
		return j.held(n), api.None
	}
}

// plain is an Int or a Bool of the bottom.
func (j judge) plain(kind int) api.Type {
	return api.Type{Kind: kind, Label: j.bottom}
}

// only is t, if it is of that Kind, else the zero type.
func only(kind int, t api.Type) api.Type {
	if t.Kind != kind {
		return api.Type{}
	}
	return t
}

func (j judge) reckoned(n Node) (api.Type, int) {
	first, second := j.read(n, n.A), j.read(n, n.B)
	if first.Kind != api.Int || second.Kind != api.Int {
		return api.Type{}, api.None
	}
	made := api.Type{Kind: api.Int, Label: j.both(first.Label, second.Label)}
	switch n.N {
	case api.OpLess, api.OpSame:
		made.Kind = api.Bool
	case api.OpDiv, api.OpMod:
		return made, second.Label
	}
	return made, api.None
}

func (j judge) side(n Node, side int) api.Type {
	pair := j.read(n, n.A)
	if pair.Kind != api.Pair {
		return api.Type{}
	}
	return j.raise(pair.Parts[side], pair.Label)
}

func (j judge) closed(n Node) api.Type {
	f := j.fns[n.N]
	if len(n.Args) != len(f.Caps) {
		return api.Type{}
	}
	for i, slot := range n.Args {
		if !types.Below(j.lattice, j.read(n, slot), f.Caps[i]) {
			return api.Type{}
		}
	}
	return Sig(j.lattice, f)
}

func (j judge) called(n Node) (api.Type, int) {
	f, arg := j.read(n, n.A), j.read(n, n.B)
	if f.Kind != api.Fun || !types.Below(j.lattice, arg, f.Parts[0]) || !j.below(f.Heap, f.Label, j.fn.Heap) {
		return api.Type{}, api.None
	}
	k := api.None
	if f.Exc != api.None {
		k = j.both(f.Exc, f.Label)
	}
	return j.raise(f.Parts[1], f.Label), k
}

func (j judge) cell(n Node) api.Type {
	if !types.Below(j.lattice, j.read(n, n.A), n.T) {
		return api.Type{}
	}
	return api.Type{Kind: api.Ref, Label: j.bottom, Parts: []api.Type{n.T}}
}

func (j judge) held(n Node) api.Type {
	ref := j.read(n, n.A)
	if ref.Kind != api.Ref {
		return api.Type{}
	}
	return j.raise(ref.Parts[0], ref.Label)
}

// read is the type that a node reads in a slot.
func (j judge) read(n Node, slot int) api.Type {
	return j.raise(j.fn.Slots[slot], n.Env)
}

func (j judge) raise(t api.Type, label int) api.Type {
	return types.Raise(j.lattice, t, label)
}

func (j judge) both(a, b int) int {
	return lattice.Both(j.lattice, a, b)
}

// below tells whether all these labels are below the bound. Nothing is below None.
func (j judge) below(bound int, labels ...int) bool {
	for _, a := range labels {
		if !lattice.Leq(j.lattice, a, bound) {
			return false
		}
	}
	return true
}
