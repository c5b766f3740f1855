package observe

import (
	"slices"
	"strconv"
	"strings"

	"palisade/api"
	"palisade/value"
)

// view is a view as far as it is told. What it tells of a cell hangs on when that was met, never on where it lies.
type view struct {
	strings.Builder
	seen  []int // the labels
	funcs []api.Func
	cells []api.Cell
	met   map[int64]int // each cell's number among those that were met
	order []api.Cell    // those that were met
}

func (w *view) tell(seeds []Seed) {
	for _, seed := range seeds {
		w.line(seed.T, seed.V)
	}
	// Telling a cell may add to the list.
	for i := 0; i < len(w.order); i++ {
		w.line(w.order[i].Type, w.order[i].Value)
	}
}

func (w *view) line(t api.Type, v api.Value) {
	w.show(t, v)
	w.WriteByte('\n')
}

// show is asked of formed values; but the type may be one of a function's Caps, which needs not be formed.
func (w *view) show(t api.Type, v api.Value) {
	if t.Kind != v.Kind || !slices.Contains(w.seen, t.Label) {
		w.hide()
		return
	}
	switch v.Kind {
	case api.Pair:
		w.pair(t, v)
	case api.Fun:
		w.fun(v)
	case api.Ref:
		w.ref(v.N)
	default:
		text, _ := value.Text(v)
		w.WriteString(text)
	}
}

// hide stands for all that isn't seen, so that nothing tells why.
func (w *view) hide() {
	w.WriteByte('?')
}

func (w *view) pair(t api.Type, v api.Value) {
	// Where the type lacks a Part, that one is of no Kind.
	var parts [2]api.Type
	copy(parts[:], t.Parts)
	w.list('(', parts[:], v.Parts, ')')
}

func (w *view) fun(v api.Value) {
	if v.N >= int64(len(w.funcs)) {
		w.hide()
		return
	}
	w.WriteByte('f')
	w.WriteString(strconv.FormatInt(v.N, 10))
	w.list('[', w.funcs[v.N].Caps, v.Parts, ']')
}

// list shows as many values as there are types and values both.
func (w *view) list(opening byte, by []api.Type, all []api.Value, closing byte) {
	w.WriteByte(opening)
	for i := range min(len(by), len(all)) {
		if i > 0 {
			w.WriteByte(',')
		}
		w.show(by[i], all[i])
	}
	w.WriteByte(closing)
}

func (w *view) ref(n int64) {
	if n >= int64(len(w.cells)) {
		w.hide()
		return
	}
	w.WriteByte('r')
	w.WriteString(strconv.Itoa(w.meet(n)))
}

// meet is that cell's number among those that were met, the last one if it is new.
func (w *view) meet(n int64) int {
	number, known := w.met[n]
	if !known {
		number = len(w.order)
		w.met[n] = number
		w.order = append(w.order, w.cells[n])
	}
	return number
}
