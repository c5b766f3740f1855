package ir

import (
	"slices"

	"palisade/api"
	"palisade/ops"
	"palisade/types"
)

// shape asks of one function, of that lattice and among so many, whether all that it names is there.
type shape struct {
	lattice api.Lattice
	fns     int
	fn      Fn
}

func (s shape) holds() bool {
	return s.typed() && Count(s.fn.Body) <= maxNodes && s.nodes(s.fn.Body) && (s.fn.Out == api.None || s.slots(s.fn.Out))
}

// typed asks all but the nodes. That the Fun is formed says of the lattice, Param, Result, Heap and Exc what they must be.
func (s shape) typed() bool {
	f := s.fn
	first := 1 + len(f.Caps)
	if len(f.Caps) > api.MaxCaps || len(f.Slots) > api.MaxSlots || len(f.Slots) < first || Sig(s.lattice, f).Kind != api.Fun {
		return false
	}
	for _, t := range f.Slots {
		if !types.Formed(s.lattice, t) {
			return false
		}
	}
	return types.Same(f.Slots[0], f.Param) && slices.EqualFunc(f.Slots[1:first], f.Caps, types.Same)
}

func (s shape) nodes(body []Node) bool {
	for _, n := range body {
		if !within(int64(n.Env), len(s.lattice.Names)) || !s.slots(reads(n)...) || writes(n) && !s.slots(n.Dst) || !s.needed(n) {
			return false
		}
	}
	return true
}

// needed asks what an Op needs beside slots and Env.
func (s shape) needed(n Node) bool {
	switch n.Op {
	case ops.Bool:
		return within(n.N, 2)
	case ops.Reckon:
		return n.N >= api.OpAdd && n.N <= api.OpSame
	case ops.Close:
		return within(n.N, s.fns)
	case ops.New:
		return types.Formed(s.lattice, n.T)
	case ops.Out:
		return within(n.N, len(s.lattice.Names))
	case ops.If, ops.Try:
		return s.nodes(n.Body) && s.nodes(n.Else)
	}
	return n.Op >= ops.Int && n.Op <= ops.Raise
}

func (s shape) slots(all ...int) bool {
	for _, slot := range all {
		if !within(int64(slot), len(s.fn.Slots)) {
			return false
		}
	}
	return true
}

// within tells whether n is the number of one of so many things.
func within(n int64, many int) bool {
	return n >= 0 && n < int64(many)
}

// reads is the slots that a node reads.
func reads(n Node) []int {
	switch n.Op {
	case ops.Copy, ops.Not, ops.First, ops.Second, ops.New, ops.Get, ops.Out, ops.If, ops.Raise:
		return []int{n.A}
	case ops.Reckon, ops.Pair, ops.Call, ops.Set:
		return []int{n.A, n.B}
	case ops.Close:
		return n.Args
	}
	return nil
}

// writes tells whether something goes into a node's Dst.
func writes(n Node) bool {
	switch n.Op {
	case ops.Set, ops.Out, ops.If, ops.Raise:
		return false
	}
	return true
}
