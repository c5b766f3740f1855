package observe_test

import (
	"slices"
	"strconv"
	"strings"

	"palisade/api"
	"palisade/lattice"
	"palisade/observe"
	"palisade/types"
	"palisade/value"
)

// The reference below is written from the chapter's words, without the package: labels are looked up in the order as it stands, and texts are put together from texts.

// formed tells whether there is a view at all.
func (s scene) formed(label int) bool {
	good := lattice.Formed(s.L) && label >= 0 && label < len(s.L.Names)
	for _, seed := range s.Seeds {
		good = good && types.Formed(s.L, seed.T) && value.Formed(seed.V)
	}
	for _, c := range s.Cells {
		good = good && types.Formed(s.L, c.Type) && value.Formed(c.Value)
	}
	return good
}

// refSeen tells whether a label is seen; the lattice is formed, and the observer's label is one of it.
func refSeen(l api.Lattice, label, other int) bool {
	return other >= 0 && other < len(l.Names) && l.Order[other][label]
}

// refer is the view.
func (s scene) refer(label int) string {
	if !s.formed(label) {
		return ""
	}
	text, met := "", []int(nil)
	for _, seed := range s.Seeds {
		text += s.referTo(seed.T, seed.V, label, &met) + "\n"
	}
	for told := 0; told < len(met); told++ {
		c := s.Cells[met[told]]
		text += s.referTo(c.Type, c.Value, label, &met) + "\n"
	}
	return text
}

func (s scene) referTo(t api.Type, v api.Value, label int, met *[]int) string {
	if !refSeen(s.L, label, t.Label) || t.Kind != v.Kind {
		return "?"
	}
	switch t.Kind {
	case api.Int:
		return strconv.FormatInt(v.N, 10)
	case api.Bool:
		return [...]string{"false", "true"}[v.N]
	case api.Pair:
		parts := append(slices.Clone(t.Parts), api.Type{}, api.Type{})
		return "(" + s.referTo(parts[0], v.Parts[0], label, met) + "," + s.referTo(parts[1], v.Parts[1], label, met) + ")"
	case api.Fun:
		if int(v.N) >= len(s.Funcs) {
			return "?"
		}
		var parts []string
		for i, captured := range s.Funcs[v.N].Caps {
			if i < len(v.Parts) {
				parts = append(parts, s.referTo(captured, v.Parts[i], label, met))
			}
		}
		return "f" + strconv.FormatInt(v.N, 10) + "[" + strings.Join(parts, ",") + "]"
	}
	if int(v.N) >= len(s.Cells) {
		return "?"
	}
	if !slices.Contains(*met, int(v.N)) {
		*met = append(*met, int(v.N))
	}
	return "r" + strconv.Itoa(slices.Index(*met, int(v.N)))
}

// referRoots is the Roots.
func (s scene) referRoots() []observe.Seed {
	var roots []observe.Seed
	for i, c := range s.Cells {
		t := api.Type{Kind: api.Ref, Parts: []api.Type{c.Type}}
		for label, row := range s.L.Order {
			if !slices.Contains(row, false) {
				t.Label = label
			}
		}
		if !types.Formed(s.L, t) {
			return nil
		}
		roots = append(roots, observe.Seed{T: t, V: ref(int64(i))})
	}
	return roots
}

// referTrace is the Trace.
func referTrace(l api.Lattice, label int, trace []api.Event) []api.Event {
	var told []api.Event
	for _, event := range trace {
		if lattice.Formed(l) && label >= 0 && label < len(l.Names) && refSeen(l, label, event.Label) {
			told = append(told, event)
		}
	}
	return told
}
