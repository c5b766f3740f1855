package class_test

import (
	"slices"
	"testing"

	"palisade/api"
	"palisade/class"
	"palisade/types"
)

// hasPool holds the pool of a formed class against one that is written out.
func hasPool(t *testing.T, name string, c api.Class, want ...api.Type) {
	t.Helper()
	if got := class.Pool(c); !slices.EqualFunc(got, want, types.Same) {
		t.Errorf("%s: %v; want %v", name, got, want)
	}
	if !slices.EqualFunc(refPool(c), want, types.Same) {
		t.Errorf("%s: the reference has %v", name, refPool(c))
	}
}

// TestPool (P13.1): the pools of ordinary classes.
func TestPool(t *testing.T) {
	i, b := integer(0), boolean(3)
	two := pair(0, i, i)
	hasPool(t, "plain", classOf(single(), plain()), i)
	hasPool(t, "full", full(), i, b, ref(2, b), fun(1, i, ref(2, b), 2, none), two, ref(0, two), boolean(0), integer(2))
}

// TestPoolOrder (P13.1): of a function Param, Result, Caps, the instructions' T, then of each point the Stack and the Slots; function by function.
func TestPoolOrder(t *testing.T) {
	// marked is a type unlike all others that are made.
	made := 0
	var want []api.Type
	marked := func() api.Type {
		made++
		x := fun(made%8, integer(0), integer(0), made/8%8, made/64)
		want = append(want, x)
		return x
	}
	f := func() api.Func {
		var f api.Func
		f.Param, f.Result, f.Slots = marked(), marked(), 2
		f.Caps = []api.Type{marked(), marked()}
		f.Code = []api.Ins{{Op: api.OpNew, T: marked()}, {Op: api.OpReturn}, {Op: api.OpNew, T: marked()}}
		for range 3 {
			f.Points = append(f.Points, api.Point{Stack: []api.Type{marked(), marked()}, Slots: []api.Type{marked(), marked()}})
		}
		return f
	}
	c := classOf(cube(), f(), f(), f())
	hasPool(t, "three functions", c, append([]api.Type{integer(0)}, want...)...)
	// The zero type has no place, wherever it stands among the Slots.
	c.Funcs = c.Funcs[:1]
	c.Funcs[0].Points[0].Slots[0], c.Funcs[0].Points[2].Slots[1] = api.Type{}, api.Type{}
	want = slices.Delete(want[:18], 8, 9)
	hasPool(t, "without two", c, append([]api.Type{integer(0)}, want[:16]...)...)
	// Parts first, the first one first, and theirs ahead of them.
	a, b, d, e := integer(5), boolean(4), integer(3), boolean(2)
	deep := pair(0, ref(1, pair(0, a, b)), fun(0, d, ref(0, e), 0, 0))
	g := plain()
	g.Param, g.Result = deep, e
	hasPool(t, "Parts", classOf(cube(), g), a, b, pair(0, a, b), ref(1, pair(0, a, b)), d, e, ref(0, e), fun(0, d, ref(0, e), 0, 0), deep)
	g.Param, g.Result = e, deep
	hasPool(t, "a Part that is met ahead", classOf(cube(), g), e, a, b, pair(0, a, b), ref(1, pair(0, a, b)), d, ref(0, e), fun(0, d, ref(0, e), 0, 0), deep)
}

// TestPoolOnce (P13.1): each type once, whichever memory it stands in; unlike ones each.
func TestPoolOnce(t *testing.T) {
	f := plain()
	f.Param, f.Result, f.Caps = forty(), forty(), []api.Type{forty(), tree(3), ref(0, tree(3))}
	f.Code = []api.Ins{{Op: api.OpNew, T: tree(5)}, {Op: api.OpNew, T: tree(4)}}
	f.Points = append(points(tree(2), forty()), points(integer(0), tree(4))...)
	c := classOf(diamond(), f, f, roomy(f))
	hasPool(t, "alike", c, integer(0), tree(2), tree(3), tree(4), tree(5), ref(0, tree(3)), forty())
	// Types that differ in one thing alone.
	i := integer(0)
	unlike := []api.Type{i, integer(1), boolean(0), ref(0, i), ref(1, i), ref(0, boolean(0)), pair(0, i, i), pair(1, i, i), pair(0, integer(1), i), pair(0, i, integer(1)), fun(0, i, i, 0, 0), fun(0, i, i, 0, none), fun(0, i, i, 0, 1), fun(0, i, i, 1, 0), fun(1, i, i, 0, 0), fun(0, i, boolean(0), 0, 0)}
	g := plain()
	g.Caps = unlike
	g.Points = append(points(i, i), points(ref(0, i), pair(0, i, i))...)
	hasPool(t, "unlike", classOf(diamond(), g), unlike...)
}

// many is a class, of the cube, in whose points' slots so many unlike types stand.
func many(count int) api.Class {
	var leaves, pairs []api.Type
	for a := range 8 {
		leaves = append(leaves, integer(a), boolean(a))
	}
	for _, x := range leaves {
		for _, y := range leaves {
			for a := range 8 {
				pairs = append(pairs, pair(a, x, y))
			}
		}
	}
	f := plain()
	f.Slots = 250
	for count > 0 {
		slots := make([]api.Type, 250)
		for i := range min(250, count) {
			count--
			slots[i] = pair(0, pairs[count%len(pairs)], pairs[count/len(pairs)])
		}
		f.Points = append(f.Points, api.Point{Slots: slots})
	}
	return classOf(cube(), f)
}

// TestPoolMany (P13.1): more types than there are shorts have their pool too, though no bytes.
func TestPoolMany(t *testing.T) {
	for _, count := range []int{10_000, 65_536} {
		c := many(count)
		pool := class.Pool(c)
		met := map[string]int{}
		for i, x := range pool {
			for _, part := range x.Parts {
				if place, ok := met[told(part)]; !ok || place >= i {
					t.Fatal("a type stands ahead of its Parts")
				}
			}
			if _, ok := met[told(x)]; ok {
				t.Fatal("a type stands there twice")
			}
			met[told(x)] = i
		}
		if len(pool) < count || len(pool) > count+2064 {
			t.Error(count, len(pool))
		}
		for _, p := range c.Funcs[0].Points[:5] {
			if _, ok := met[told(p.Slots[0])]; !ok {
				t.Error("a type isn't there")
			}
		}
		if b, e := class.Encode(c); !class.Formed(c) || (e != api.OK) != (count > 20_000) || e != api.OK && (e != api.ErrLong || len(b) != 0) {
			t.Error(count, e, len(b))
		}
	}
}
