package observe_test

import (
	"math/rand"
	"strings"
	"testing"

	"palisade/api"
	"palisade/observe"
)

// sceneDrawer draws scenes in which most values are of their types' Kinds, but needn't fit.
type sceneDrawer struct {
	*rand.Rand
	s scene
}

// eachScene asks of drawn ones; all in them is formed.
func eachScene(seed int64, many int, ask func(d *sceneDrawer, s scene)) {
	d := &sceneDrawer{Rand: rand.New(rand.NewSource(seed))}
	for range many {
		d.draw()
		ask(d, d.s)
	}
}

func (d *sceneDrawer) draw() {
	d.s = scene{L: lattices()[d.Intn(4)], Funcs: make([]api.Func, d.Intn(4)), Cells: make([]api.Cell, d.Intn(7))}
	for i := range d.s.Funcs {
		for range d.Intn(4) {
			d.s.Funcs[i].Caps = append(d.s.Funcs[i].Caps, d.typed(3))
		}
	}
	for i := range d.s.Cells {
		d.s.Cells[i].Type = d.typed(3)
		d.s.Cells[i].Value = d.value(d.s.Cells[i].Type, 4)
	}
	for range d.Intn(6) {
		t := d.typed(4)
		if d.Intn(2) == 0 {
			t = typed(api.Ref, d.label(), t)
		}
		d.s.Seeds = append(d.s.Seeds, observe.Seed{T: t, V: d.value(t, 4)})
	}
}

func (d *sceneDrawer) label() int {
	return d.Intn(len(d.s.L.Names))
}

// typed draws a type; the lower labels come more often, so that there is something to be seen.
func (d *sceneDrawer) typed(levels int) api.Type {
	t := api.Type{Kind: 1 + d.Intn(2), Label: d.label()}
	if low := d.label(); d.s.L.Order[low][t.Label] {
		t.Label = low
	}
	if levels == 0 {
		return t
	}
	switch d.Intn(6) {
	case 0, 1:
		return typed(api.Pair, t.Label, d.typed(levels-1), d.typed(levels-1))
	case 2:
		return typed(api.Ref, t.Label, d.typed(levels-1))
	case 3:
		return api.Type{Kind: api.Fun, Label: t.Label, Parts: []api.Type{d.typed(0), d.typed(0)}, Heap: d.label(), Exc: d.label()}
	}
	return t
}

// value draws a value by a type; now and then one of another Kind, of too few or too many Parts, of no cell and no function.
func (d *sceneDrawer) value(t api.Type, deep int) api.Value {
	kind := t.Kind
	if d.Intn(15) == 0 {
		kind = 1 + d.Intn(5)
	}
	switch kind {
	case api.Bool:
		return boolean(d.Int63n(2))
	case api.Pair:
		parts := append(append([]api.Type(nil), t.Parts...), intAt(0), intAt(0))
		return pair(d.value(parts[0], deep), d.value(parts[1], deep))
	case api.Fun:
		return d.fun(deep)
	case api.Ref:
		return ref(d.Int63n(int64(len(d.s.Cells) + 1)))
	}
	return integer(d.Int63n(30) - 9)
}

func (d *sceneDrawer) fun(deep int) api.Value {
	made := fun(d.Int63n(int64(len(d.s.Funcs) + 1)))
	if deep == 0 || made.N == int64(len(d.s.Funcs)) {
		return made
	}
	caps := d.s.Funcs[made.N].Caps
	switch d.Intn(8) {
	case 0:
		caps = caps[:d.Intn(len(caps)+1)]
	case 1:
		caps = append(append([]api.Type(nil), caps...), intAt(0))
	}
	for _, t := range caps {
		made.Parts = append(made.Parts, d.value(t, deep-1))
	}
	return made
}

// TestDrawn (P19.1): drawn scenes, seen by everyone, against the reference.
func TestDrawn(t *testing.T) {
	counts := map[rune]int{}
	longest := 0
	eachScene(193, 5000, func(d *sceneDrawer, s scene) {
		for label := -1; label <= len(s.L.Names); label++ {
			got, want := s.view(label), s.refer(label)
			if got != want {
				t.Fatalf("%+v:\n%d sees\n%s\nnot\n%s", s, label, got, want)
			}
			for _, sign := range "?(frt\n" {
				counts[sign] += min(strings.Count(got, string(sign)), 1)
			}
			longest = max(longest, strings.Count(got, "\n")-len(s.Seeds))
		}
	})
	for _, sign := range "?(frt\n" {
		if counts[sign] < 2000 {
			t.Error("too few:", string(sign), counts[sign])
		}
	}
	if longest < 6 {
		t.Error("too few cells are met:", longest)
	}
}
