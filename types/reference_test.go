package types_test

import (
	"testing"

	"palisade/api"
	"palisade/types"
)

// The reference below is written from the chapter's words; bounds are searched for among all types of a universe, by the order alone.

func refNodes(t api.Type) int {
	n := 1
	for _, part := range t.Parts {
		n += refNodes(part)
	}
	return n
}

func refDeep(t api.Type) int {
	deep := 0
	for _, part := range t.Parts {
		deep = max(deep, refDeep(part))
	}
	return deep + 1
}

func refFormed(labels int, t api.Type) bool {
	if refNodes(t) > 40 || refDeep(t) > 6 {
		return false
	}
	label := func(a int) bool { return 0 <= a && a < labels }
	good := label(t.Label)
	switch t.Kind {
	case api.Int, api.Bool:
		good = good && len(t.Parts) == 0
	case api.Pair, api.Fun:
		good = good && len(t.Parts) == 2
	case api.Ref:
		good = good && len(t.Parts) == 1
	default:
		return false
	}
	if t.Kind == api.Fun {
		good = good && label(t.Heap) && (t.Exc == -1 || label(t.Exc))
	} else {
		good = good && t.Heap == 0 && t.Exc == 0
	}
	for _, part := range t.Parts {
		good = good && refFormed(labels, part)
	}
	return good
}

func refSame(s, t api.Type) bool {
	if len(s.Parts) != len(t.Parts) {
		return false
	}
	for i := range s.Parts {
		if !refSame(s.Parts[i], t.Parts[i]) {
			return false
		}
	}
	return [4]int{s.Kind, s.Label, s.Heap, s.Exc} == [4]int{t.Kind, t.Label, t.Heap, t.Exc}
}

func refPlain(t api.Type) bool {
	plain := t.Kind != api.Fun
	for _, part := range t.Parts {
		plain = plain && refPlain(part)
	}
	return plain
}

func refBelow(order [][]bool, s, t api.Type) bool {
	if s.Kind != t.Kind || !order[s.Label][t.Label] {
		return false
	}
	switch s.Kind {
	case api.Pair:
		return refBelow(order, s.Parts[0], t.Parts[0]) && refBelow(order, s.Parts[1], t.Parts[1])
	case api.Ref:
		return refSame(s.Parts[0], t.Parts[0])
	case api.Fun:
		exc := s.Exc == -1 || t.Exc != -1 && order[s.Exc][t.Exc]
		return exc && order[t.Heap][s.Heap] && refBelow(order, t.Parts[0], s.Parts[0]) && refBelow(order, s.Parts[1], t.Parts[1])
	}
	return true
}

// universe is a lattice with types of it such that each two that have a join, a meet have it among them.
type universe struct {
	l   api.Lattice
	all []api.Type
}

// simple are the Ints and Bools of these labels.
func simple(labels []int) []api.Type {
	var all []api.Type
	for _, a := range labels {
		all = append(all, integer(a), boolean(a))
	}
	return all
}

// composed are all Pairs, Funs and Refs of these labels and Parts.
func composed(labels []int, parts []api.Type, heaps, excs []int) []api.Type {
	var all []api.Type
	for _, a := range labels {
		for _, first := range parts {
			all = append(all, ref(a, first))
			for _, second := range parts {
				all = append(all, pair(a, first, second))
				for _, heap := range heaps {
					for _, exc := range excs {
						all = append(all, fun(a, first, second, heap, exc))
					}
				}
			}
		}
	}
	return all
}

// funs are all Funs of Ints.
func funs(outer, inner, heaps, excs []int) []api.Type {
	var all []api.Type
	for _, a := range outer {
		for _, takes := range inner {
			for _, gives := range inner {
				for _, heap := range heaps {
					for _, exc := range excs {
						all = append(all, fun(a, integer(takes), integer(gives), heap, exc))
					}
				}
			}
		}
	}
	return all
}

func universes(t *testing.T) map[string]universe {
	two, three, four := []int{0, 1}, []int{0, 1, 2}, []int{0, 1, 2, 3}
	low := []int{0}
	one := makeLattice(t, []string{"only"})
	ofFuns := composed(two, funs(low, two, two, []int{-1, 1}), low, []int{-1})
	return map[string]universe{
		"one label":    {one, append(simple(low), composed(low, append(simple(low), composed(low, simple(low), low, []int{-1, 0})...), low, []int{-1, 0})...)},
		"two labels":   {chain(t), append(simple(two), composed(two, simple(two), two, []int{-1, 0, 1})...)},
		"turned order": {turned(t), append(simple(three), append(composed([]int{1, 2}, simple([]int{0, 2}), nil, nil), funs([]int{1}, three, three, []int{-1, 0, 1, 2})...)...)},
		"diamond":      {diamond(t), append(simple(four), append(composed(four, simple([]int{1}), nil, nil), funs([]int{0, 3}, four, four, []int{-1, 0, 1, 2, 3})...)...)},
		"Funs in all":  {chain(t), append(simple(two), ofFuns...)},
	}
}

// set is types of a universe, by their numbers.
type set []uint64

func (s set) has(i int) bool {
	return s[i/64]>>(i%64)&1 == 1
}

func (s set) both(other set) set {
	all := make(set, len(s))
	for i := range s {
		all[i] = s[i] & other[i]
	}
	return all
}

func (s set) within(other set) bool {
	for i := range s {
		if s[i]&^other[i] != 0 {
			return false
		}
	}
	return true
}

// related are, for each type, those of which it holds.
func (u universe) related(holds func(s, t api.Type) bool) []set {
	sets := make([]set, len(u.all))
	for i, s := range u.all {
		sets[i] = make(set, len(u.all)/64+1)
		for j, t := range u.all {
			if holds(s, t) {
				sets[i][j/64] |= 1 << (j % 64)
			}
		}
	}
	return sets
}

func (u universe) refAbove() []set {
	return u.related(func(s, t api.Type) bool { return refBelow(u.l.Order, s, t) })
}

func (u universe) refUnder() []set {
	return u.related(func(s, t api.Type) bool { return refBelow(u.l.Order, t, s) })
}

// eachUniverse runs a test on all of them.
func eachUniverse(t *testing.T, test func(t *testing.T, u universe)) {
	for name, u := range universes(t) {
		t.Run(name, func(t *testing.T) {
			t.Parallel()
			test(t, u)
		})
	}
}

// TestOneType (P2.1): what is asked of one type.
func TestOneType(t *testing.T) {
	eachUniverse(t, func(t *testing.T, u universe) {
		for _, x := range u.all {
			if !types.Formed(u.l, x) || types.Nodes(x) != refNodes(x) || types.Plain(x) != refPlain(x) {
				t.Fatalf("%v: %v, %d, %v", x, types.Formed(u.l, x), types.Nodes(x), types.Plain(x))
			}
		}
	})
}

// TestBelow (P2.1): Below, and Same beside it.
func TestBelow(t *testing.T) {
	eachUniverse(t, func(t *testing.T, u universe) {
		for i, s := range u.all {
			for j, other := range u.all {
				if got := types.Below(u.l, s, other); got != refBelow(u.l.Order, s, other) {
					t.Fatalf("%v below %v: %v", s, other, got)
				}
				if got := types.Same(s, copied(other)); got != (i == j) {
					t.Fatalf("%v same as %v: %v", s, other, got)
				}
			}
		}
	})
}

// TestBelowIsAnOrder (P2.3).
func TestBelowIsAnOrder(t *testing.T) {
	eachUniverse(t, func(t *testing.T, u universe) {
		above := u.related(func(s, t api.Type) bool { return types.Below(u.l, s, t) })
		for i := range u.all {
			if !above[i].has(i) {
				t.Fatalf("%v isn't below itself", u.all[i])
			}
			for j := range u.all {
				if i != j && above[i].has(j) && above[j].has(i) {
					t.Fatalf("%v and %v are below one another", u.all[i], u.all[j])
				}
				if above[i].has(j) && !above[j].within(above[i]) {
					t.Fatalf("%v is below %v, and not below all that that is below", u.all[i], u.all[j])
				}
			}
		}
	})
}

// sameBounds holds a bound of each two types against the one that the order asks for: reach is, for each type, those that are bounds of it.
func sameBounds(t *testing.T, u universe, reach []set, bound func(l api.Lattice, s, t api.Type) (api.Type, bool)) {
	for i, s := range u.all {
		for j, other := range u.all {
			got, ok := bound(u.l, s, other)
			bounds, found := reach[i].both(reach[j]), -1
			for k := range u.all {
				if bounds.has(k) && bounds.within(reach[k]) {
					found = k
				}
			}
			if ok != (found >= 0) || ok && !refSame(got, u.all[found]) || !ok && !refSame(got, api.Type{}) {
				t.Fatalf("%v, %v: %v, %v", s, other, got, ok)
			}
		}
	}
}

// TestJoin (P2.2, P2.3): the join is above both, and below all that are.
func TestJoin(t *testing.T) {
	eachUniverse(t, func(t *testing.T, u universe) {
		sameBounds(t, u, u.refAbove(), types.Join)
	})
}

// TestMeet (P2.2).
func TestMeet(t *testing.T) {
	eachUniverse(t, func(t *testing.T, u universe) {
		sameBounds(t, u, u.refUnder(), types.Meet)
	})
}
