package observe_test

import (
	"slices"
	"testing"

	"palisade/api"
	"palisade/observe"
)

// moved is the scene with its cells in another order: the cell that was the i-th one is the order[i]-th one. Refs to no cell stay.
func (s scene) moved(order []int) scene {
	made := scene{L: s.L, Funcs: s.Funcs, Cells: make([]api.Cell, len(s.Cells))}
	for i, c := range s.Cells {
		made.Cells[order[i]] = cell(c.Type, movedValue(c.Value, order))
	}
	for _, seed := range s.Seeds {
		made.Seeds = append(made.Seeds, observe.Seed{T: seed.T, V: movedValue(seed.V, order)})
	}
	return made
}

// movedValue is the value with all Refs in it changed so.
func movedValue(v api.Value, order []int) api.Value {
	if v.Kind == api.Ref && v.N < int64(len(order)) {
		return ref(int64(order[v.N]))
	}
	parts := v.Parts
	v.Parts = nil
	for _, part := range parts {
		v.Parts = append(v.Parts, movedValue(part, order))
	}
	return v
}

// TestMoved (P19.2): the cells in each other order, in Funs, Pairs, cells and rings.
func TestMoved(t *testing.T) {
	toInt := refAt(left, left)
	both := typed(api.Pair, left, toInt, refAt(right, right))
	s := of([]api.Func{capturing(toInt, both)},
		cell(intAt(left), integer(5)), cell(typed(api.Ref, left, funAt(left)), ref(3)), cell(intAt(left), integer(6)), cell(funAt(left), fun(0, ref(2), pair(ref(0), ref(0)))),
	).seed(both, pair(ref(2), ref(0))).seed(refAt(left, left), ref(9)).seed(typed(api.Ref, left, toInt), ref(1)).seed(toInt, ref(2))
	s.tells(t, left, "(r0,?)\n?\nr1\nr0\n6\nr2\nf0[r0,(r3,?)]\n5\n")
	for _, order := range orders(4) {
		for label := range 4 {
			if got, want := s.moved(order).view(label), s.view(label); got != want {
				t.Errorf("%v: %d sees\n%s\nnot\n%s", order, label, got, want)
			}
		}
	}
}

// orders are all of so many things.
func orders(many int) [][]int {
	if many == 0 {
		return [][]int{nil}
	}
	var all [][]int
	for _, order := range orders(many - 1) {
		for at := range many {
			all = append(all, slices.Insert(slices.Clone(order), at, many-1))
		}
	}
	return all
}

// TestMovedDrawn (P19.2): drawn scenes, whether values fit or not.
func TestMovedDrawn(t *testing.T) {
	met := 0
	eachScene(194, 3000, func(d *sceneDrawer, s scene) {
		order := d.Perm(len(s.Cells))
		other := s.moved(order)
		for label := range s.L.Names {
			got, want := other.view(label), s.view(label)
			if got != want {
				t.Fatalf("%+v, moved %v: %d sees\n%s\nnot\n%s", s, order, label, got, want)
			}
			if !slices.IsSorted(order) && want != "" && !alike(other.Seeds, s.Seeds) {
				met++
			}
		}
	})
	if met < 3000 {
		t.Error("too few:", met)
	}
}

// TestAlikeBelow (P19.2): two drawn beginnings of the same types, that fit: what one observer sees as alike, each one below does, both where all cells are seeds and where they are met by the argument alone.
func TestAlikeBelow(t *testing.T) {
	counts := map[bool]int{}
	accepted(195, 400, func(d *drawer) {
		for range 6 {
			q, ok := d.given()
			if !ok {
				continue
			}
			other := d.other(q, func(int) bool { return d.Intn(4) > 0 })
			one, two := q.scene(), other.scene()
			if d.Intn(2) == 0 {
				one.Seeds, two.Seeds = one.Seeds[len(q.heap):], two.Seeds[len(q.heap):]
			}
			for label := range one.L.Names {
				same := one.view(label) == two.view(label)
				counts[same]++
				for least := range one.L.Names {
					if same && one.L.Order[least][label] && one.view(least) != two.view(least) {
						t.Fatalf("%+v, %+v: %d sees as alike what %d doesn't", one, two, label, least)
					}
				}
			}
		}
	})
	if counts[true] < 1000 || counts[false] < 500 {
		t.Error("too few:", counts)
	}
}
