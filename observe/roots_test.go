package observe_test

import (
	"testing"

	"palisade/api"
	"palisade/lattice"
	"palisade/observe"
	"palisade/types"
	"palisade/value"
)

// TestRoots (P19.1): for each cell a Ref of it, with the type Ref of the cell's Type with the lattice's bottom, wherever that stands; what the cells hold means nothing.
func TestRoots(t *testing.T) {
	cells := []api.Cell{
		cell(intAt(top), integer(4)), cell(refAt(left, right), ref(9)), cell(intAt(top), api.Value{Kind: 77}),
		cell(api.Type{Kind: api.Fun, Label: right, Parts: []api.Type{intAt(0), refAt(1, 2)}, Heap: 2, Exc: none}, integer(1)),
	}
	for many := range len(cells) + 1 {
		roots := observe.Roots(diamond(), cells[:many])
		if len(roots) != many {
			t.Error(many, roots)
		}
		for i, root := range roots {
			want := typed(api.Ref, bottom, cells[i].Type)
			if !types.Same(root.T, want) || !value.Same(root.V, ref(int64(i))) {
				t.Errorf("%d: %+v", i, root)
			}
		}
	}
	roots := observe.Roots(chain(), []api.Cell{cell(intAt(1), integer(4))})
	if len(roots) != 1 || !types.Same(roots[0].T, refAt(0, 1)) || !value.Same(roots[0].V, ref(0)) {
		t.Error(roots)
	}
}

// nested is a type that is so deep.
func nested(deep int) api.Type {
	t := intAt(0)
	for range deep - 1 {
		t = typed(api.Ref, 0, t)
	}
	return t
}

// full is a tree of Pairs that is so deep.
func full(deep int) api.Type {
	t := intAt(0)
	for range deep - 1 {
		t = typed(api.Pair, 0, t, t)
	}
	return t
}

// TestRootsNone (P19.1): none, if one of the types isn't formed: the cell's Type, or the Ref of it alone, which nests deeper; the first one, one between, the last one.
func TestRootsNone(t *testing.T) {
	bad := map[string]api.Type{
		"zero": {}, "no label": intAt(4), "None": intAt(none), "a Bool with a Part": typed(api.Bool, 0, intAt(0)),
		"a Pair with one": typed(api.Pair, 0, intAt(0)), "a Heap": {Kind: api.Int, Heap: 1}, "too deep": nested(api.MaxDeep), "far too deep": nested(api.MaxDeep + 1),
		"too many nodes": full(api.MaxDeep),
	}
	good := []api.Type{nested(api.MaxDeep - 1), full(api.MaxDeep - 1), intAt(0)}
	for name, odd := range bad {
		for at := range 3 {
			var cells []api.Cell
			for i, fine := range good {
				if i == at {
					fine = odd
				}
				cells = append(cells, cell(fine, integer(1)))
			}
			if roots := observe.Roots(diamond(), cells); len(roots) > 0 {
				t.Error(name, "at", at, roots)
			}
		}
	}
	var cells []api.Cell
	for _, fine := range good {
		cells = append(cells, cell(fine, integer(1)))
	}
	if roots := observe.Roots(diamond(), cells); len(roots) != 3 {
		t.Error(roots)
	}
	for i, l := range unformed() {
		if roots := observe.Roots(l, []api.Cell{cell(intAt(0), integer(1))}); len(roots) > 0 {
			t.Error(i, roots)
		}
	}
}

// TestRootsDrawn (P19.1): against the reference.
func TestRootsDrawn(t *testing.T) {
	some, several := 0, 0
	eachScene(192, 1000, func(d *sceneDrawer, s scene) {
		got, want := observe.Roots(s.L, s.Cells), s.referRoots()
		if !alike(got, want) {
			t.Fatalf("%+v: %+v, not %+v", s, got, want)
		}
		if len(got) > 0 && lattice.Bottom(s.L) > 0 {
			some++
		}
		if len(got) > 1 {
			several++
		}
	})
	if some < 100 || several < 100 {
		t.Error("too few:", some, several)
	}
}
