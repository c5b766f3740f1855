package verify_test

import (
	"fmt"
	"testing"

	"palisade/api"
)

// TestSet (P17.1): the value, raised by E, is below what the Ref holds; the Ref's Label, E and Heap are below the Label of that.
func TestSet(t *testing.T) {
	for _, env := range labels {
		for _, label := range labels {
			for _, holds := range labels {
				for _, given := range labels {
					for _, heap := range []int{lO, lA, lAB} {
						x := trying(op(api.OpSet), env, ref(label, integer(holds)), integer(given))
						x.heap = heap
						name := fmt.Sprint("a Ref of ", label, " to ", holds, ", given ", given, " at ", env, ", in a Heap ", heap)
						if leq(join(env, label, given, heap), holds) {
							x.does(t, name, x.pushes())
						} else {
							x.refused(t, name)
						}
					}
				}
			}
		}
	}
	for i, given := range some() {
		for k, holds := range some() {
			holds.Label = lAB
			if x := trying(op(api.OpSet), lB, ref(lA, holds), given); i == k {
				x.does(t, "of each Kind", x.pushes())
				x.stack = append(list(boolean(lB), integer(lO)), x.stack...)
				x.does(t, "of each Kind, over others", x.pushes(boolean(lB), integer(lO)))
			} else {
				x.refused(t, "of another Kind")
			}
		}
		if given.Kind != api.Ref {
			trying(op(api.OpSet), lO, given, integer(lO)).refused(t, fmt.Sprint("into a Kind ", given.Kind))
		}
	}
	trying(op(api.OpSet), lO, integer(lO), ref(lO, integer(lO))).refused(t, "in the other order")
	trying(op(api.OpSet), lO, ref(lO, integer(lO))).refused(t, "nothing to set")
	trying(op(api.OpSet), lO, integer(lO)).refused(t, "no Ref")
	trying(op(api.OpSet), lO).refused(t, "nothing at all")
}

// TestOut (P17.1): an Int; its Label, E and Heap are below A.
func TestOut(t *testing.T) {
	for _, env := range labels {
		for _, label := range labels {
			for _, to := range labels {
				for _, heap := range labels {
					x := trying(op(api.OpOut, to), env, integer(label))
					x.heap = heap
					name := fmt.Sprint("an Int of ", label, " to ", to, " at ", env, ", in a Heap ", heap)
					if leq(join(env, label, heap), to) {
						x.does(t, name, x.pushes())
					} else {
						x.refused(t, name)
					}
				}
			}
		}
	}
	x := trying(op(api.OpOut, lAB), lA, ref(lB, integer(lO)), integer(lO))
	x.does(t, "over another one", x.pushes(ref(lB, integer(lO))))
	for _, other := range some() {
		if other.Kind != api.Int {
			trying(op(api.OpOut, lAB), lO, other).refused(t, fmt.Sprint("of a Kind ", other.Kind))
		}
	}
	trying(op(api.OpOut, lAB), lO).refused(t, "of nothing")
}

// TestJump (P17.1): a jump takes nothing and makes nothing, also of what isn't there.
func TestJump(t *testing.T) {
	for _, env := range labels {
		x := trying(op(api.OpJump, tried+1), env)
		x.does(t, "with an empty stack", x.pushes())
		x.stack, x.slots = some(), append(some(), api.Type{})
		x.does(t, "with a stack", x.pushes(some()...))
	}
}

// TestUnless (P17.1): a Bool; K is the join of its Label and E, and raises what is left on the stack.
func TestUnless(t *testing.T) {
	for _, env := range labels {
		for _, label := range labels {
			k := join(label, env)
			x := trying(op(api.OpUnless, tried+1), env, boolean(label))
			x.does(t, "of one", effect{nil, x.slots, k, none})
			left := list()
			for _, t := range some() {
				left = append(left, raised(t, k))
			}
			x.stack = append(some(), boolean(label))
			x.does(t, "over others", effect{left, x.slots, k, none})
		}
	}
	for _, other := range some() {
		if other.Kind != api.Bool {
			trying(op(api.OpUnless, tried+1), lO, other).refused(t, fmt.Sprint("of a Kind ", other.Kind))
			trying(op(api.OpUnless, tried+1), lO, boolean(lO), other).refused(t, fmt.Sprint("of a Kind ", other.Kind, " over a Bool"))
		}
	}
	trying(op(api.OpUnless, tried+1), lO).refused(t, "of nothing")
}

// TestRaise (P17.1): an Int, raised with P, the join of its Label and E; there is no K, and nothing is asked of the next place.
func TestRaise(t *testing.T) {
	for _, env := range labels {
		for _, label := range labels {
			p := join(label, env)
			x := trying(op(api.OpRaise), env, integer(label))
			x.does(t, "of one", effect{nil, x.slots, none, p})
			x.does(t, "ahead of what it can't go on with", effect{list(boolean(lO)), list(boolean(lO)), none, p})
			x.stack = append(some(), integer(label))
			x.does(t, "over others", effect{nil, x.slots, none, p})
		}
	}
	for _, other := range some() {
		if other.Kind != api.Int {
			trying(op(api.OpRaise), lO, other).refused(t, fmt.Sprint("of a Kind ", other.Kind))
			trying(op(api.OpRaise), lO, integer(lO), other).refused(t, fmt.Sprint("of a Kind ", other.Kind, " over an Int"))
		}
	}
	trying(op(api.OpRaise), lO).refused(t, "of nothing")
}

// TestReturn (P17.1): one alone is on the stack; raised by E it is below Result; nothing is asked of the next place.
func TestReturn(t *testing.T) {
	for _, env := range labels {
		for _, label := range labels {
			x := trying(op(api.OpReturn), env, integer(label))
			x.does(t, "an Int for the top", effect{nil, x.slots, none, none})
			x.does(t, "ahead of what it can't go on with", effect{list(boolean(lO)), list(boolean(lO)), none, none})
			for _, result := range labels {
				if result != lAB {
					x := x.with(func(x *trial) { x.result = integer(result) })
					x.is(t, fmt.Sprint("an Int of ", label, " at ", env, " for ", result), leq(join(label, env), result))
				}
			}
		}
		for i, given := range some() {
			for k, result := range some() {
				x := trying(op(api.OpReturn), env, given)
				x.result = relabelled(result, lB)
				x.is(t, fmt.Sprint("Kind ", i, " for ", k, " at ", env), i == k && leq(join(given.Label, env), lB))
			}
		}
	}
	trying(op(api.OpReturn), lO).refused(t, "nothing to return")
	for _, below := range some() {
		trying(op(api.OpReturn), lO, below, integer(lO)).refused(t, "another one below")
		trying(op(api.OpReturn), lO, integer(lO), below, integer(lO)).refused(t, "two others below")
	}
	x := trying(op(api.OpReturn), lO, fun(lO, integer(lA), integer(lO), lA, none))
	x.result = fun(lO, integer(lO), integer(lA), lO, lB)
	x.is(t, "a lesser Fun", true)
	x.stack[0].Heap, x.result.Heap = lO, lA
	x.is(t, "a Fun of a lesser Heap", false)
}
