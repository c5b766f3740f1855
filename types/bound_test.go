package types_test

import (
	"testing"

	"palisade/api"
	"palisade/lattice"
	"palisade/types"
)

// TestExamples: those of the chapter.
func TestExamples(t *testing.T) {
	l := chain(t)
	if !types.Below(l, integer(0), integer(1)) || !types.Below(l, ref(0, integer(0)), ref(1, integer(0))) || types.Below(l, ref(0, integer(0)), ref(1, integer(1))) {
		t.Error("Ints and Refs")
	}
	low, high := fun(0, integer(0), integer(0), 0, 0), fun(0, integer(0), integer(0), 1, 0)
	if !types.Below(l, high, low) || types.Below(l, low, high) {
		t.Error("Funs")
	}
}

// TestExcs (P2.1, P2.2): None in either or both of two Funs, below and bound.
func TestExcs(t *testing.T) {
	l := diamond(t)
	none := api.None
	for _, x := range []struct {
		a, b       int
		below      bool
		join, meet int
	}{
		{none, none, true, none, none},
		{none, 0, true, 0, none}, {0, none, false, 0, none},
		{none, 3, true, 3, none}, {3, none, false, 3, none},
		{0, 3, true, 3, 0}, {3, 0, false, 3, 0},
		{1, 2, false, 3, 0}, {2, 1, false, 3, 0}, {1, 1, true, 1, 1},
	} {
		s, u := fun(0, integer(0), integer(0), 0, x.a), fun(0, integer(0), integer(0), 0, x.b)
		if types.Below(l, s, u) != x.below {
			t.Errorf("Excs %d, %d: Below %v", x.a, x.b, !x.below)
		}
		if got, ok := types.Join(l, s, u); !ok || got.Exc != x.join {
			t.Errorf("Excs %d, %d: Join %v", x.a, x.b, got)
		}
		if got, ok := types.Meet(l, s, u); !ok || got.Exc != x.meet {
			t.Errorf("Excs %d, %d: Meet %v", x.a, x.b, got)
		}
	}
}

// TestUnlike (P2.2): there is no bound of unlike Kinds, and of Refs that hold unlike types, wherever they stand.
func TestUnlike(t *testing.T) {
	l := chain(t)
	kinds := []api.Type{integer(0), boolean(0), pair(0, integer(0), integer(0)), fun(0, integer(0), integer(0), 0, 0), ref(0, integer(0)), ref(0, integer(1)), ref(0, boolean(0)), ref(0, ref(0, integer(0)))}
	within := []func(x api.Type) api.Type{
		func(x api.Type) api.Type { return x },
		func(x api.Type) api.Type { return pair(0, x, integer(0)) },
		func(x api.Type) api.Type { return pair(0, integer(0), x) },
		func(x api.Type) api.Type { return fun(0, x, integer(0), 0, 0) },
		func(x api.Type) api.Type { return fun(0, integer(0), x, 0, 0) },
		func(x api.Type) api.Type { return ref(0, x) },
	}
	for _, in := range within {
		for i, s := range kinds {
			for j, u := range kinds {
				if i == j {
					continue
				}
				join, joined := types.Join(l, in(s), in(u))
				meet, met := types.Meet(l, in(s), in(u))
				if joined || met || !refSame(join, api.Type{}) || !refSame(meet, api.Type{}) {
					t.Errorf("%v, %v: %v, %v", in(s), in(u), join, meet)
				}
			}
		}
	}
}

// TestDeepBounds (P2.2): the way turns at each Fun that a type stands in as what it takes; what a Ref holds stays.
func TestDeepBounds(t *testing.T) {
	l := chain(t)
	held := fun(1, integer(0), boolean(1), 1, api.None)
	s := fun(0, fun(0, fun(0, integer(0), integer(0), 0, api.None), pair(0, integer(0), ref(0, held)), 1, 0), integer(1), 1, 0)
	u := fun(1, fun(1, fun(1, integer(1), integer(1), 1, 1), pair(1, integer(1), ref(1, held)), 0, 1), integer(0), 0, api.None)
	join := fun(1, fun(0, fun(1, integer(0), integer(1), 0, 1), pair(0, integer(0), ref(0, held)), 1, 0), integer(1), 0, 0)
	meet := fun(0, fun(1, fun(0, integer(1), integer(0), 1, api.None), pair(1, integer(1), ref(1, held)), 0, 1), integer(0), 1, api.None)
	for _, both := range [][2]api.Type{{s, u}, {u, s}} {
		if got, ok := types.Join(l, both[0], both[1]); !ok || !refSame(got, join) {
			t.Errorf("Join: %v, %v", got, ok)
		}
		if got, ok := types.Meet(l, both[0], both[1]); !ok || !refSame(got, meet) {
			t.Errorf("Meet: %v, %v", got, ok)
		}
	}
}

// TestBoundsAtTheEdges (P2.2): of types of MaxNodes nodes, MaxDeep deep.
func TestBoundsAtTheEdges(t *testing.T) {
	l := chain(t)
	high := forty()
	high.Label = 1
	if got, ok := types.Join(l, forty(), high); !ok || !refSame(got, high) || !types.Below(l, forty(), high) {
		t.Errorf("Join: %v, %v", got, ok)
	}
	if got, ok := types.Meet(l, forty(), high); !ok || !refSame(got, forty()) {
		t.Errorf("Meet: %v, %v", got, ok)
	}
	if got := types.Raise(l, forty(), 1); !refSame(got, high) {
		t.Errorf("Raise: %v", got)
	}
}

// TestRaise (P2.2): its Label is the Join of both, all else as it is.
func TestRaise(t *testing.T) {
	eachUniverse(t, func(t *testing.T, u universe) {
		for _, x := range u.all {
			for _, a := range numbers {
				want := x
				want.Label = lattice.Join(u.l, x.Label, a)
				if want.Label == api.None {
					want = api.Type{}
				}
				if got := types.Raise(u.l, x, a); !refSame(got, want) {
					t.Fatalf("%v raised by %d: %v", x, a, got)
				}
			}
		}
	})
}
