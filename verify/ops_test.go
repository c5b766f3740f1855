package verify_test

import (
	"fmt"
	"testing"

	"palisade/api"
	"palisade/lattice"
	"palisade/types"
)

// join is the join of labels of sets; the bottom, if there are none.
func join(all ...int) int {
	joined := lO
	for _, label := range all {
		joined = lattice.Join(sets(), joined, label)
	}
	return joined
}

// raised is a type of sets with its Label joined with those.
func raised(t api.Type, all ...int) api.Type {
	t.Label = join(append(all, t.Label)...)
	return t
}

// some are types of all Kinds.
func some() []api.Type {
	return list(integer(lA), boolean(lB), pair(lO, integer(lA), ref(lO, boolean(lB))), ref(lA, integer(lO)), fun(lB, integer(lAB), boolean(lO), lA, none))
}

// TestPushed (P17.1): an Int and a Bool have the bottom, raised by E; what is left on the stack stays as it is.
func TestPushed(t *testing.T) {
	for _, env := range labels {
		name := fmt.Sprint("at ", env)
		for _, n := range []int{-1 << 63, 0, 1, 1<<63 - 1} {
			x := trying(op(api.OpInt, n), env)
			x.does(t, "OpInt "+name, x.pushes(integer(env)))
		}
		for n := range 2 {
			x := trying(op(api.OpBool, n), env)
			x.does(t, "OpBool "+name, x.pushes(boolean(env)))
		}
		for _, left := range some() {
			x := trying(op(api.OpInt), env, left)
			x.does(t, "OpInt over another one "+name, x.pushes(left, integer(env)))
			x = trying(op(api.OpBool), env, left, left)
			x.does(t, "OpBool over others "+name, x.pushes(left, left, boolean(env)))
		}
	}
}

// TestFullStack (P17.1): a state of one type more than there may be on a point's stack fits none.
func TestFullStack(t *testing.T) {
	room, full := repeat(integer(lO), api.MaxStack-1), repeat(integer(lO), api.MaxStack)
	f := trying(op(api.OpSelf), lO).class().Funcs[0]
	own := fun(lO, f.Param, f.Result, f.Heap, f.Exc)
	for _, c := range []struct {
		ins  api.Ins
		made api.Type
	}{{op(api.OpInt), integer(lO)}, {op(api.OpBool), boolean(lO)}, {op(api.OpLoad), integer(lA)}, {op(api.OpSelf), own}} {
		name := fmt.Sprint("Op ", c.ins.Op)
		x := trying(c.ins, lO, room...)
		x.does(t, name, x.pushes(append(append(list(), room...), c.made)...))
		trying(c.ins, lO, full...).refused(t, name)
		x = trying(c.ins, lO, full...)
		x.behind = refState{full, x.slots}
		x.is(t, name+", the same again", false)
	}
	x := trying(op(api.OpNot), lO, append(append(list(), room...), boolean(lA))...)
	x.does(t, "OpNot", x.pushes(x.stack...))
}

// TestLoad (P17.1): a slot's type, raised by E; there must be one.
func TestLoad(t *testing.T) {
	for _, env := range labels {
		for i, slot := range some() {
			for slots := i + 1; slots < i+3; slots++ {
				x := trying(op(api.OpLoad, i), env)
				x.slots = append(append(list(), some()...), api.Type{}, integer(lB))[:slots]
				x.does(t, fmt.Sprint("slot ", i, " of ", slots, " at ", env), x.pushes(raised(slot, env)))
				x.slots = replaced(x.slots, i, api.Type{})
				x.refused(t, fmt.Sprint("slot ", i, " of ", slots, ", which is empty"))
			}
		}
	}
}

// TestStore (P17.1): what is taken, raised by E, stands in the slot then, whatever stood there; the other slots stay as they are.
func TestStore(t *testing.T) {
	for _, env := range labels {
		for _, given := range some() {
			for i := range 3 {
				x := trying(op(api.OpStore, i), env, given)
				x.slots = list(integer(lA), boolean(lB), api.Type{})
				name := fmt.Sprint("Kind ", given.Kind, " into slot ", i, " at ", env)
				x.does(t, name, effect{nil, replaced(x.slots, i, raised(given, env)), none, none})
				x.stack = list(boolean(lA), given)
				x.does(t, name+", over another one", effect{list(boolean(lA)), replaced(x.slots, i, raised(given, env)), none, none})
			}
		}
		trying(op(api.OpStore), env).refused(t, "nothing to store")
	}
}

// TestPop (P17.1): one is taken, of any Kind.
func TestPop(t *testing.T) {
	for _, env := range labels {
		for _, given := range some() {
			x := trying(op(api.OpPop), env, given)
			x.does(t, "OpPop", x.pushes())
			x.stack = list(boolean(lA), integer(lB), given)
			x.does(t, "OpPop over others", x.pushes(boolean(lA), integer(lB)))
		}
		trying(op(api.OpPop), env).refused(t, "nothing to pop")
	}
}

// TestReckoned (P17.1): of two Ints an Int, or a Bool, of the join of both Labels, raised by E; of OpDiv and OpMod K is the join of the second one's Label and E.
func TestReckoned(t *testing.T) {
	for which := api.OpAdd; which <= api.OpSame; which++ {
		divides := which == api.OpDiv || which == api.OpMod
		for _, env := range []int{lO, lB} {
			for _, first := range labels {
				for _, second := range labels {
					name := fmt.Sprint("Op ", which, " of ", first, " and ", second, " at ", env)
					made := integer(join(first, second, env))
					if which == api.OpLess || which == api.OpSame {
						made.Kind = api.Bool
					}
					x := trying(op(which), env, integer(first), integer(second))
					want, left := x.pushes(made), ref(lA, integer(lO))
					if divides {
						want.k, want.p = join(second, env), join(second, env)
					}
					x.does(t, name, want)
					x.stack = list(left, integer(first), integer(second))
					if want.stack = list(left, made); divides {
						want.stack[0] = raised(left, want.k)
					}
					x.does(t, name+", over another one", want)
				}
			}
		}
		for _, other := range some()[1:] {
			name := fmt.Sprint("Op ", which, " with a Kind ", other.Kind)
			trying(op(which), lO, integer(lO), other).refused(t, name+" on top")
			trying(op(which), lO, other, integer(lO)).refused(t, name+" below")
			trying(op(which), lO, other, other).refused(t, name+" twice")
		}
		trying(op(which), lO).refused(t, fmt.Sprint("Op ", which, " of none"))
		trying(op(which), lO, integer(lO)).refused(t, fmt.Sprint("Op ", which, " of one"))
	}
}

// TestNot (P17.1): of a Bool that Bool, raised by E.
func TestNot(t *testing.T) {
	for _, env := range labels {
		for _, label := range labels {
			x := trying(op(api.OpNot), env, boolean(label))
			x.does(t, "OpNot", x.pushes(boolean(join(label, env))))
			x.stack = list(integer(lA), boolean(label))
			x.does(t, "OpNot over another one", x.pushes(integer(lA), boolean(join(label, env))))
		}
	}
	for _, other := range some() {
		if other.Kind != api.Bool {
			trying(op(api.OpNot), lO, other).refused(t, fmt.Sprint("OpNot of a Kind ", other.Kind))
			trying(op(api.OpNot), lO, boolean(lO), other).refused(t, fmt.Sprint("OpNot of a Kind ", other.Kind, " over a Bool"))
		}
	}
	trying(op(api.OpNot), lO).refused(t, "OpNot of none")
}

// TestPair (P17.1): a Pair of both, the top being the second, of the bottom, raised by E; both stay as they are.
func TestPair(t *testing.T) {
	for _, env := range labels {
		for _, first := range some() {
			for _, second := range some() {
				x := trying(op(api.OpPair), env, first, second)
				x.does(t, "OpPair", x.pushes(pair(env, first, second)))
			}
		}
		trying(op(api.OpPair), env).refused(t, "OpPair of none")
		trying(op(api.OpPair), env, integer(lO)).refused(t, "OpPair of one")
	}
	x := trying(op(api.OpPair), lA, boolean(lB), integer(lO), integer(lB))
	x.does(t, "OpPair over another one", x.pushes(boolean(lB), pair(lA, integer(lO), integer(lB))))
}

// TestPairTooGreat (P17.1): a Pair that isn't formed, as it is too deep or has too many nodes, fits no point.
func TestPairTooGreat(t *testing.T) {
	for _, c := range []struct {
		name          string
		first, second api.Type
		ok            bool
	}{
		{"as deep as may be", deep(api.MaxDeep - 1), integer(lO), true},
		{"too deep", deep(api.MaxDeep), integer(lO), false},
		{"too deep at the second", integer(lO), deep(api.MaxDeep), false},
		{"of 39 nodes", wide(19), wide(19), true},
		{"of 40 nodes", wide(19), pair(lO, wide(9), pair(lO, ref(lO, integer(lO)), wide(7))), true},
		{"of 41 nodes", wide(19), wide(21), false},
	} {
		x := trying(op(api.OpPair), lO, c.first, c.second)
		if made := pair(lO, c.first, c.second); types.Formed(sets(), made) != c.ok {
			t.Error(c.name, "isn't what it should be")
		} else if c.ok {
			x.does(t, c.name, x.pushes(made))
		} else {
			x.refused(t, c.name)
		}
	}
}

// TestParts (P17.1): of a Pair its part, raised by the Pair's Label and E.
func TestParts(t *testing.T) {
	for _, env := range labels {
		for _, label := range labels {
			for i, part := range some() {
				other := some()[(i+1)%5]
				name := fmt.Sprint("the part ", i, " of a Pair of ", label, " at ", env)
				x := trying(op(api.OpFirst), env, pair(label, part, other))
				x.does(t, "OpFirst: "+name, x.pushes(raised(part, label, env)))
				x = trying(op(api.OpSecond), env, pair(label, other, part))
				x.does(t, "OpSecond: "+name, x.pushes(raised(part, label, env)))
			}
		}
	}
	for _, which := range []int{api.OpFirst, api.OpSecond} {
		x := trying(op(which), lB, boolean(lA), pair(lO, integer(lA), integer(lA)))
		x.does(t, "over another one", x.pushes(boolean(lA), integer(lAB)))
		for _, other := range some() {
			if other.Kind != api.Pair {
				trying(op(which), lO, other).refused(t, fmt.Sprint("Op ", which, " of a Kind ", other.Kind))
			}
		}
		trying(op(which), lO).refused(t, fmt.Sprint("Op ", which, " of none"))
	}
}

// TestNew (P17.1): one that is below T: a Ref of T, of the bottom, raised by E.
func TestNew(t *testing.T) {
	for _, env := range labels {
		for _, of := range labels {
			for _, label := range labels {
				x := trying(newOf(integer(of)), env, integer(label))
				name := fmt.Sprint("OpNew of ", of, " from ", label, " at ", env)
				if !leq(label, of) {
					x.refused(t, name)
					continue
				}
				x.does(t, name, x.pushes(ref(env, integer(of))))
				x.stack = list(boolean(lA), integer(label))
				x.does(t, name+", over another one", x.pushes(boolean(lA), ref(env, integer(of))))
			}
		}
		for i, given := range some() {
			for k, of := range some() {
				if x := trying(newOf(of), env, given); i != k {
					x.refused(t, "OpNew of another Kind")
				} else {
					x.does(t, "OpNew of each Kind", x.pushes(ref(env, of)))
				}
			}
		}
		trying(newOf(integer(lO)), env).refused(t, "OpNew of none")
	}
	x := trying(newOf(deep(api.MaxDeep-1)), lO, deep(api.MaxDeep-1))
	x.does(t, "OpNew of what is as deep as may be", x.pushes(ref(lO, deep(api.MaxDeep-1))))
	trying(newOf(deep(api.MaxDeep)), lO, deep(api.MaxDeep)).refused(t, "OpNew of what is too deep in a Ref")
	// What is given may be less than T, within it too.
	less, more := pair(lO, integer(lA), integer(lO)), pair(lA, integer(lAB), integer(lB))
	x = trying(newOf(more), lO, less)
	x.does(t, "OpNew of less", x.pushes(ref(lO, more)))
	trying(newOf(less), lO, more).refused(t, "OpNew of more")
}

// TestGet (P17.1): of a Ref what it holds, raised by its Label and E.
func TestGet(t *testing.T) {
	for _, env := range labels {
		for _, label := range labels {
			for _, holds := range some() {
				x := trying(op(api.OpGet), env, ref(label, holds))
				x.does(t, "OpGet", x.pushes(raised(holds, label, env)))
			}
		}
	}
	x := trying(op(api.OpGet), lB, boolean(lA), ref(lO, integer(lA)))
	x.does(t, "OpGet over another one", x.pushes(boolean(lA), integer(lAB)))
	for _, other := range some() {
		if other.Kind != api.Ref {
			trying(op(api.OpGet), lO, other).refused(t, fmt.Sprint("OpGet of a Kind ", other.Kind))
		}
	}
	trying(op(api.OpGet), lO).refused(t, "OpGet of none")
}
