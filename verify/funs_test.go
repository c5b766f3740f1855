package verify_test

import (
	"fmt"
	"testing"

	"palisade/api"
)

// capturing is an accepted function of sets that captures these.
func capturing(caps ...api.Type) api.Func {
	return api.Func{
		Param: boolean(lB), Result: integer(lA), Caps: caps, Heap: lB, Exc: lA, Slots: 1 + len(caps),
		Code: []api.Ins{op(api.OpInt), op(api.OpReturn)},
		Points: []api.Point{
			{Slots: append(list(boolean(lB)), caps...), Env: lO},
			{Stack: list(integer(lO)), Slots: make([]api.Type, 1+len(caps)), Env: lO},
		},
	}
}

// itsType is capturing's.
func itsType(label int) api.Type {
	return fun(label, boolean(lB), integer(lA), lB, lA)
}

// TestClose (P17.1): as many as the function has Caps, the last one on top, each below its: that function's type, of the bottom, raised by E.
func TestClose(t *testing.T) {
	for _, env := range labels {
		x := trying(op(api.OpClose, 1), env)
		x.others = []api.Func{capturing()}
		x.does(t, "of none", x.pushes(itsType(env)))
		x.stack = some()
		x.does(t, "of none over others", x.pushes(append(some(), itsType(env))...))
		for n := 1; n <= 5; n++ {
			x := trying(op(api.OpClose, 1), env, some()[:n]...)
			x.others = []api.Func{capturing(some()[:n]...)}
			name := fmt.Sprint("of ", n, " at ", env)
			x.does(t, name, x.pushes(itsType(env)))
			x.stack = append(list(boolean(lAB), integer(lO)), some()[:n]...)
			x.does(t, name+", over others", x.pushes(boolean(lAB), integer(lO), itsType(env)))
			x.stack = some()[1:n]
			x.refused(t, name+", the first one isn't there")
			x.stack = some()[:n-1]
			x.refused(t, name+", the last one isn't there")
			x.stack = nil
			x.refused(t, name+", none is there")
		}
	}
}

// TestCaptured (P17.1): each of what is captured must be below its Cap, by Kind and label; it isn't raised by E.
func TestCaptured(t *testing.T) {
	const n = 3
	for i := range n {
		for _, label := range labels {
			for _, cap := range labels {
				for _, env := range []int{lO, lAB} {
					x := trying(op(api.OpClose, 2), env, repeat(integer(lB), n)...)
					x.stack[i] = integer(label)
					caps := repeat(integer(lB), n)
					caps[i] = integer(cap)
					x.others = []api.Func{gives(integer(lO)), capturing(caps...), gives(boolean(lA))}
					name := fmt.Sprint("of ", label, " for ", cap, " at ", i)
					if leq(label, cap) {
						x.does(t, name, x.pushes(itsType(env)))
					} else {
						x.refused(t, name)
					}
				}
			}
		}
		x := trying(op(api.OpClose, 1), lO, repeat(integer(lB), n)...)
		x.others = []api.Func{capturing(repeat(integer(lB), n)...)}
		x.stack[i] = boolean(lB)
		x.refused(t, fmt.Sprint("of another Kind at ", i))
	}
	full := trying(op(api.OpClose, 1), lO, repeat(integer(lB), api.MaxStack)...)
	full.others = []api.Func{capturing(repeat(integer(lB), api.MaxStack)...)}
	full.does(t, "as many as there may be on a stack", full.pushes(itsType(lO)))
	full.others = []api.Func{capturing(repeat(integer(lB), api.MaxStack+1)...)}
	full.refused(t, "more than there may be on a stack")
}

// TestCloseItself (P17.1): OpClose may name its own function, and is asked for its Caps then.
func TestCloseItself(t *testing.T) {
	x := trying(op(api.OpClose, 0), lB)
	own := fun(lB, x.param, x.result, x.heap, x.exc)
	x.does(t, "without Caps", x.pushes(own))
	x.caps, x.slots = list(boolean(lA)), list(integer(lA), boolean(lA))
	x.refused(t, "the Cap isn't there")
	x.stack = list(boolean(lA))
	x.does(t, "with a Cap", x.pushes(own))
	x.stack = list(boolean(lAB))
	x.refused(t, "above the Cap")
}

// TestSelf (P17.1): the function's own type, of the bottom, raised by E.
func TestSelf(t *testing.T) {
	for _, env := range labels {
		x := trying(op(api.OpSelf), env)
		own := fun(env, x.param, x.result, x.heap, x.exc)
		x.does(t, "OpSelf", x.pushes(own))
		x.stack = list(boolean(lA))
		x.does(t, "OpSelf over another one", x.pushes(boolean(lA), own))
	}
	base := trying(op(api.OpSelf), lO)
	base.param, base.heap, base.exc = integer(lA), lA, lB
	base.behind = refState{list(fun(lO, integer(lA), integer(lAB), lA, none)), base.slots}
	base.is(t, "OpSelf as what never raises", false)
	base.exc = none
	base.is(t, "OpSelf of what never raises", true)
}

// TestTypeTooGreat (P17.1): a function whose type isn't formed is accepted, but no OpSelf in it, and no OpClose of it.
func TestTypeTooGreat(t *testing.T) {
	x := trying(op(api.OpSelf), lO)
	x.param = deep(api.MaxDeep - 1)
	x.does(t, "as deep as may be", x.pushes(fun(lO, x.param, x.result, x.heap, x.exc)))
	x.param = deep(api.MaxDeep)
	x.refused(t, "too deep")
	x = trying(op(api.OpClose, 1), lO)
	x.others = []api.Func{gives(deep(api.MaxDeep - 1))}
	x.does(t, "as deep as may be", x.pushes(fun(lO, deep(api.MaxDeep-1), deep(api.MaxDeep-1), lO, none)))
	x.others = []api.Func{gives(deep(api.MaxDeep))}
	x.refused(t, "too deep")
	x.ins = op(api.OpInt)
	x.does(t, "as long as nothing captures for it", x.pushes(integer(lO)))
	x.ins, x.others = op(api.OpClose, 1), []api.Func{gives(wide(19))}
	x.does(t, "of 39 nodes", x.pushes(fun(lO, wide(19), wide(19), lO, none)))
	x.others = []api.Func{gives(wide(21))}
	x.refused(t, "of 43 nodes")
}

// called is a trial of an OpCall of a Fun of that Label, Heap and Exc, from Int@A to Bool@O, with what it is given.
func called(env, label, heap, exc int, given api.Type) trial {
	return trying(op(api.OpCall), env, fun(label, integer(lA), boolean(lO), heap, exc), given)
}

// TestCall (P17.1): what it gives, raised by L; with an Exc also by K, which is the join of that and L.
func TestCall(t *testing.T) {
	for _, env := range labels {
		for _, label := range labels {
			for _, exc := range append(labels, none) {
				x := called(env, label, lAB, exc, integer(lA))
				l, left := join(label, env), integer(lO)
				want := x.pushes(boolean(l))
				name := fmt.Sprint("a Fun of ", label, " and Exc ", exc, " at ", env)
				if exc != none {
					want.k, want.p = join(exc, l), join(exc, l)
					want.stack[0], left = boolean(want.k), integer(want.k)
				}
				x.does(t, name, want)
				x.stack = append(list(integer(lO)), x.stack...)
				want.stack = append(list(left), want.stack...)
				x.does(t, name+", over another one", want)
			}
		}
	}
}

// TestCalledHeap (P17.1): L and the function's own Heap are below the Fun's Heap.
func TestCalledHeap(t *testing.T) {
	for _, heap := range labels {
		for _, label := range labels {
			for _, env := range labels {
				for _, own := range labels {
					x := called(env, label, heap, none, integer(lA))
					x.heap = own
					name := fmt.Sprint("Heap ", heap, ", a Fun of ", label, " at ", env, ", in a Heap ", own)
					if leq(join(label, env, own), heap) {
						x.does(t, name, x.pushes(boolean(join(label, env))))
					} else {
						x.refused(t, name)
					}
				}
			}
		}
	}
}

// TestGiven (P17.1): what a Fun is given is below what it takes; it isn't raised by E.
func TestGiven(t *testing.T) {
	for _, label := range labels {
		for _, exc := range []int{none, lO} {
			x := called(lB, lO, lAB, exc, integer(label))
			want := x.pushes(boolean(lB))
			if exc != none {
				want.k, want.p = lB, lB
			}
			if leq(label, lA) {
				x.does(t, fmt.Sprint("given ", label), want)
			} else {
				x.refused(t, fmt.Sprint("given ", label))
			}
		}
	}
	for _, other := range some() {
		if other.Kind != api.Int {
			called(lO, lO, lAB, none, other).refused(t, fmt.Sprint("given a Kind ", other.Kind))
		}
		if other.Kind != api.Fun {
			trying(op(api.OpCall), lO, other, integer(lO)).refused(t, fmt.Sprint("called is a Kind ", other.Kind))
		}
	}
	trying(op(api.OpCall), lO, pair(lO, integer(lA), integer(lO)), integer(lO)).refused(t, "called is a Pair of what is given and an Int")
	f := called(lO, lO, lAB, none, integer(lA)).stack[0]
	trying(op(api.OpCall), lO, integer(lA), f).refused(t, "in the other order")
	trying(op(api.OpCall), lO, f).refused(t, "given nothing")
	trying(op(api.OpCall), lO).refused(t, "nothing called")
	// What is given may be less than what is taken, within it too.
	takes := fun(lO, integer(lO), integer(lA), lO, lA)
	x := trying(op(api.OpCall), lO, fun(lO, takes, integer(lO), lO, none), fun(lO, integer(lA), integer(lO), lA, none))
	x.does(t, "given a lesser Fun", x.pushes(integer(lO)))
	x.stack[1] = fun(lO, integer(lO), integer(lAB), lO, lA)
	x.refused(t, "given a greater Fun")
}

// TestGivenBack (P17.1): what is given back is of any Kind, and keeps its own label.
func TestGivenBack(t *testing.T) {
	for _, given := range some() {
		for _, label := range labels {
			x := trying(op(api.OpCall), lO, fun(label, boolean(lO), given, lAB, none), boolean(lO))
			x.does(t, "OpCall", x.pushes(raised(given, label)))
			x.stack[0].Exc = lB
			want := x.pushes(raised(given, label, lB))
			want.k, want.p = join(label, lB), join(label, lB)
			x.does(t, "OpCall of what raises", want)
		}
	}
}
