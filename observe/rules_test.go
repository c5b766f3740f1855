package observe_test

import (
	"math"
	"reflect"
	"slices"
	"strings"
	"testing"

	"palisade/api"
	"palisade/observe"
)

// ordinary is a scene in which there is something of all that there may be.
func ordinary() scene {
	both := typed(api.Pair, left, intAt(bottom), refAt(right, right))
	s := of([]api.Func{capturing(intAt(left), both), capturing()},
		cell(intAt(left), integer(5)), cell(typed(api.Ref, left, funAt(left)), ref(2)), cell(funAt(left), fun(0, integer(2), pair(integer(3), ref(3)))), cell(intAt(right), integer(6)),
	)
	return s.seed(both, pair(integer(4), ref(3))).seed(typed(api.Bool, left), boolean(1)).seed(typed(api.Ref, left, refAt(left, left)), ref(1)).seed(funAt(left), fun(1))
}

// TestFull (P19.1): an ordinary scene, and all that comes of one thing in it that is changed, is held against the reference.
func TestFull(t *testing.T) {
	ordinary().tells(t, left, "(4,?)\ntrue\nr0\nf1[]\nr1\nf0[2,(3,?)]\n")
	s := roomy(ordinary())
	trace := events(left, top, bottom, right, 4)
	asked := &struct {
		S     *scene
		Trace []api.Event
	}{&s, trace}
	texts := map[string]int{}
	ask := func() {
		for label := -1; label <= 4; label++ {
			got, want := s.view(label), s.refer(label)
			if got != want {
				t.Errorf("%+v: %d sees\n%s\nnot\n%s", s, label, got, want)
			}
			texts[got]++
			if !alike(observe.Trace(s.L, label, trace), referTrace(s.L, label, trace)) {
				t.Errorf("%+v, %v: %d sees other events", s.L, trace, label)
			}
		}
		if !alike(observe.Roots(s.L, s.Cells), s.referRoots()) {
			t.Errorf("%+v: other roots", s)
		}
	}
	each(asked.S, ask)
	each(&asked.Trace, ask)
	if len(texts) < 60 || texts[""] < 500 {
		t.Error("too few:", len(texts), texts[""])
	}
}

// greatTypes are of very many nodes: such as stand in themselves, are deep, share memory, or are wide.
func greatTypes() []api.Type {
	ring := make([]api.Type, 1000)
	for i := range ring {
		ring[i] = api.Type{Kind: api.Pair, Label: i % 5, Parts: ring}
	}
	line, shared := intAt(0), typed(api.Bool, 0)
	for i := range 100_000 {
		line = typed(api.Ref, i%4, line)
	}
	for range 1000 {
		shared = typed(api.Pair, bottom, shared, shared)
	}
	return []api.Type{ring[8], line, shared, {Kind: -5, Label: -6, Heap: 7, Exc: 8, Parts: make([]api.Type, 5000)}}
}

// greatValues are of very many nodes, too.
func greatValues() []api.Value {
	ring := make([]api.Value, 1000)
	for i := range ring {
		ring[i] = fun(int64(i%2), ring...)
		ring[i].Parts = ring
	}
	line, shared := integer(1), integer(2)
	for range 1_000_000 {
		line = fun(0, line)
	}
	for range 1000 {
		shared = pair(shared, shared)
	}
	return []api.Value{ring[8], line, shared, fun(0, make([]api.Value, 5000)...)}
}

// TestGreat (P19.1, R1): types and values that are far too great aren't formed.
func TestGreat(t *testing.T) {
	for i, odd := range greatTypes() {
		of(nil).seed(odd, integer(1)).tells(t, top, "")
		of(nil, cell(odd, integer(1))).seed(intAt(top), integer(1)).tells(t, top, "")
		if roots := observe.Roots(diamond(), []api.Cell{cell(intAt(top), integer(1)), cell(odd, integer(1))}); len(roots) > 0 {
			t.Error(i, roots)
		}
	}
	for i, odd := range greatValues() {
		of(nil).seed(intAt(top), odd).tells(t, top, "")
		of(nil, cell(intAt(top), odd)).seed(intAt(top), integer(1)).tells(t, top, "")
		if roots := observe.Roots(diamond(), []api.Cell{cell(intAt(top), odd)}); len(roots) != 1 {
			t.Error(i, roots)
		}
	}
}

// TestGreatCaps (P19.1, R1): a value is seen by such types only as far as it goes.
func TestGreatCaps(t *testing.T) {
	odd := greatTypes()
	v := pair(pair(integer(1), integer(2)), boolean(1))
	s := of([]api.Func{capturing(odd...)}, cell(intAt(top), integer(5))).seed(funAt(top), fun(0, v, ref(0), v, v))
	s.tells(t, top, "f0[((?,?),?),r0,((?,?),?),?]\n5\n")
}

// deepest is a value of as many nodes as there may be, that nest as deep as they can and share what they hold.
func deepest(cells int) api.Value {
	v := ref(0)
	for n := range api.MaxValue/2 - 1 {
		v = fun(0, v, ref(int64(n%cells)))
	}
	return v
}

// TestShared (P19.1, R1): formed values that nest deep and share what they hold, in very many cells, are told.
func TestShared(t *testing.T) {
	s := of([]api.Func{capturing(funAt(left), refAt(left, left))}, make([]api.Cell, 1000)...)
	v := deepest(len(s.Cells))
	for i := range s.Cells {
		s.Cells[i] = cell(funAt(left), v)
	}
	s = s.seed(funAt(left), v)
	got := s.view(left)
	if strings.Count(got, "\n") != 1000 || !strings.HasPrefix(got, strings.Repeat("f0[", 999)+"?,r0],r1],r2]") {
		t.Error(strings.Count(got, "\n"), got[:min(len(got), 4000)])
	}
	wide := typed(api.Pair, left, intAt(left), intAt(left))
	twice := pair(integer(1), integer(2))
	for range 3 {
		wide, twice = typed(api.Pair, left, wide, wide), pair(twice, twice)
	}
	of(nil).seed(wide, twice).tells(t, left, "((((1,2),(1,2)),((1,2),(1,2))),(((1,2),(1,2)),((1,2),(1,2))))\n")
}

// TestMany (R1): very many cells, seeds and events.
func TestMany(t *testing.T) {
	const many = 300_000
	s := of(nil, make([]api.Cell, many)...)
	trace := make([]api.Event, many)
	for i := range s.Cells {
		s.Cells[i] = cell(refAt(left, left), ref(int64((i+1)%many)))
		trace[i] = api.Event{Label: i%6 - 1, N: int64(i)}
	}
	s = s.seed(refAt(left, left), ref(7))
	if got := s.view(left); strings.Count(got, "\n") != many+1 || !strings.HasSuffix(got, "\nr299998\nr299999\nr0\n") {
		t.Error(strings.Count(got, "\n"))
	}
	roots := observe.Roots(s.L, s.Cells)
	if len(roots) != many || roots[many-1].V.N != many-1 {
		t.Error(len(roots))
	}
	s.Seeds = roots
	if got := s.view(left); strings.Count(got, "\n") != 2*many || !strings.HasSuffix(got, "\nr299999\nr0\n") {
		t.Error(strings.Count(got, "\n"))
	}
	if got := observe.Trace(s.L, left, trace); len(got) != many/3 {
		t.Error(len(got))
	}
}

// TestNothingPanics (R1): arguments of all sorts.
func TestNothingPanics(t *testing.T) {
	extremes := []int{math.MinInt, -2, -1, 0, 1, 2, 3, 4, 5, 6, 59, 60, math.MaxInt32, 1 << 31, math.MaxInt}
	for _, l := range append(unformed(), lattices()...) {
		for _, a := range extremes {
			for _, b := range extremes {
				strange := api.Type{Kind: a, Label: b, Heap: a, Exc: b, Parts: []api.Type{{Kind: b}}}
				v := api.Value{Kind: a, N: int64(b), Parts: []api.Value{{Kind: b}}}
				s := scene{L: l, Funcs: []api.Func{capturing(strange, strange)}, Cells: []api.Cell{cell(strange, v)}, Seeds: []observe.Seed{{T: strange, V: v}}}
				if s.view(a) != s.refer(a) || !alike(observe.Roots(l, s.Cells), s.referRoots()) {
					t.Errorf("%d: %+v", a, s)
				}
				trace := []api.Event{{Label: b, N: int64(a)}}
				if !alike(observe.Trace(l, a, trace), referTrace(l, a, trace)) {
					t.Errorf("%d of %+v: %v", a, l, trace)
				}
				v.Parts = nil
				for label := range l.Names {
					s := scene{L: l, Funcs: s.Funcs, Cells: []api.Cell{cell(intAt(0), v)}}.seed(refAt(0, 0), ref(0)).seed(funAt(0), fun(0, v, v)).seed(intAt(0), v)
					s.tells(t, label, s.refer(label))
				}
			}
		}
	}
}

// handed is all that is handed in.
func handed(s scene, trace []api.Event) any {
	return struct {
		S     scene
		Trace []api.Event
	}{s, trace}
}

// TestArgumentsAreLeft (R5): what is handed in is left as it is, its spare room too, and no answer hangs on that.
func TestArgumentsAreLeft(t *testing.T) {
	eachScene(5, 400, func(d *sceneDrawer, s scene) {
		plainly := s
		label := d.label()
		s = roomy(s)
		trace := roomy(events(d.Perm(len(s.L.Names))...))
		before := whole(handed(s, trace))
		text, roots := s.view(label), observe.Roots(s.L, s.Cells)
		seen := observe.Trace(s.L, label, trace)
		if !reflect.DeepEqual(before, whole(handed(s, trace))) {
			t.Fatalf("%+v was changed", plainly)
		}
		if text != plainly.view(label) || !alike(roots, observe.Roots(plainly.L, plainly.Cells)) || !alike(seen, referTrace(s.L, label, trace)) {
			t.Fatalf("%+v: an answer hangs on spare room", plainly)
		}
	})
}

// TestNewMemory (R5): what is told shares no memory with what was handed in, within itself, or with another answer, and a change of it changes nothing.
func TestNewMemory(t *testing.T) {
	answered := 0
	eachScene(55, 600, func(d *sceneDrawer, s scene) {
		s = roomy(s)
		label := d.label()
		trace := roomy(events(d.Perm(len(s.L.Names))...))
		before := whole(handed(s, trace))
		roots, others := observe.Roots(s.L, s.Cells), observe.Roots(s.L, s.Cells)
		seen, again := observe.Trace(s.L, label, trace), observe.Trace(s.L, label, trace)
		if !apart(handed(s, trace), roots, others, seen, again) {
			t.Fatalf("%+v: memory is shared", s)
		}
		if len(roots) > 1 && len(seen) > 1 {
			answered++
		}
		spoil(reflect.ValueOf(roots))
		spoil(reflect.ValueOf(seen))
		if !reflect.DeepEqual(before, whole(handed(s, trace))) || !alike(others, s.referRoots()) || !alike(again, referTrace(s.L, label, trace)) {
			t.Fatalf("%+v: something was changed", s)
		}
	})
	if answered < 100 {
		t.Error("too few:", answered)
	}
}

// TestSharedCells (R5): one type in several cells stands in memory of its own in each root.
func TestSharedCells(t *testing.T) {
	both := typed(api.Pair, left, refAt(left, left), refAt(right, right))
	both.Parts[1] = both.Parts[0]
	if roots := observe.Roots(diamond(), []api.Cell{cell(both, integer(1)), cell(both, integer(1))}); len(roots) != 2 || !apart(roots, both.Parts[:1]) {
		t.Errorf("%+v", roots)
	}
}

// spoil sets all that stands in v's lists to zero.
func spoil(v reflect.Value) {
	switch v.Kind() {
	case reflect.Struct:
		for i := range v.NumField() {
			spoil(v.Field(i))
		}
	case reflect.Slice:
		v = v.Slice(0, v.Cap())
		for i := range v.Len() {
			spoil(v.Index(i))
			v.Index(i).SetZero()
		}
	}
}

// TestNoElements (R5): a list of no elements may be nil or empty.
func TestNoElements(t *testing.T) {
	empty := api.Type{Kind: api.Int, Label: left, Parts: []api.Type{}}
	s := scene{L: diamond(), Funcs: []api.Func{{Caps: []api.Type{}}, {}}, Cells: []api.Cell{}, Seeds: []observe.Seed{
		{T: empty, V: api.Value{Kind: api.Int, N: 3, Parts: []api.Value{}}}, {T: funAt(left), V: api.Value{Kind: api.Fun, Parts: []api.Value{}}}, {T: funAt(left), V: api.Value{Kind: api.Fun, N: 1}},
	}}
	s.tells(t, left, "3\nf0[]\nf1[]\n")
	s.Funcs, s.Seeds = []api.Func{}, s.Seeds[:2]
	s.tells(t, left, "3\n?\n")
	roots := observe.Roots(diamond(), []api.Cell{cell(empty, api.Value{})})
	if len(roots) != 1 || !alike(roots[0].T, refAt(bottom, left)) {
		t.Errorf("%+v", roots)
	}
	if len(observe.Roots(diamond(), []api.Cell{}))+len(observe.Roots(diamond(), nil)) > 0 {
		t.Error("roots of nothing")
	}
}

// TestZero (R6): a field that isn't named is zero.
func TestZero(t *testing.T) {
	for i, root := range observe.Roots(diamond(), []api.Cell{cell(funAt(left), integer(7))}) {
		want := observe.Seed{T: typed(api.Ref, bottom, funAt(left)), V: api.Value{Kind: api.Ref, N: int64(i)}}
		if !alike(root, want) {
			t.Errorf("%+v", root)
		}
	}
}

// TestAgain (R7): what is answered hangs on nothing but what is given.
func TestAgain(t *testing.T) {
	var asked []scene
	var answers []string
	eachScene(7, 300, func(d *sceneDrawer, s scene) {
		asked, answers = append(asked, s), append(answers, s.view(0))
	})
	for i, s := range slices.Backward(asked) {
		if s.view(0) != answers[i] {
			t.Fatalf("%+v: another answer", s)
		}
	}
}
