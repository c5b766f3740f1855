package observe_test

import (
	"math/rand"

	"palisade/api"
	"palisade/lattice"
	"palisade/observe"
	"palisade/types"
	"palisade/value"
	"palisade/verify"
)

// question is what a run is given.
type question struct {
	c      api.Class
	arg    api.Value
	heap   []api.Cell
	limits api.Limits
}

// scene is what is seen as the run begins.
func (q question) scene() scene {
	l, all := q.c.Lattice, q.c.Funcs
	return scene{l, all, q.heap, append(observe.Roots(l, q.heap), observe.Seed{T: all[0].Param, V: q.arg})}
}

// fits tells whether what is given fits.
func (q question) fits() bool {
	return value.Fits(q.c.Lattice, q.c.Funcs, q.heap, q.c.Funcs[0].Param, q.arg) && value.Heap(q.c.Lattice, q.c.Funcs, q.heap)
}

// accepted asks of drawn classes that layer 17 accepts.
func accepted(seed int64, many int, ask func(d *drawer)) {
	d := &drawer{Rand: rand.New(rand.NewSource(seed))}
	for range many {
		d.class()
		if d.again() {
			d.lower()
			ask(d)
		}
	}
}

// given draws what a run is given, if there is something that fits.
func (d *drawer) given() (question, bool) {
	q := question{c: d.c, limits: api.Limits{Fuel: 300 + d.Intn(100), Frames: 10 + d.Intn(3), Cells: 25 + d.Intn(9)}}
	for range d.Intn(4) {
		t := d.typed(1, true)
		d.cell(&q, t, 2, true)
	}
	v, ok := d.fitting(&q, d.c.Funcs[0].Param, 3, true)
	q.arg = v
	return q, ok
}

// cell is a Ref of one that there is, or of a new one, if there may be such.
func (d *drawer) cell(q *question, t api.Type, deep int, more bool) (api.Value, bool) {
	var all []api.Value
	for n, c := range q.heap {
		if types.Same(c.Type, t) {
			all = append(all, ref(int64(n)))
		}
	}
	if len(all) > 0 && (!more || d.Intn(2) == 0) {
		return all[d.Intn(len(all))], true
	}
	if !more {
		return api.Value{}, false
	}
	v, ok := d.fitting(q, t, deep, true)
	q.heap = append(q.heap, api.Cell{Type: t, Value: v})
	return ref(int64(len(q.heap) - 1)), ok
}

// fitting draws a value that fits a type, if there is such a one; with cells that are new, if there may be more.
func (d *drawer) fitting(q *question, t api.Type, deep int, more bool) (api.Value, bool) {
	switch t.Kind {
	case api.Int:
		return integer(d.Int63n(5)), true
	case api.Bool:
		return boolean(d.Int63n(2)), true
	case api.Pair:
		first, okFirst := d.fitting(q, t.Parts[0], deep, more)
		second, okSecond := d.fitting(q, t.Parts[1], deep, more)
		return pair(first, second), okFirst && okSecond
	case api.Ref:
		return d.cell(q, t.Parts[0], deep, more)
	}
	begin := d.Intn(len(q.c.Funcs))
	for i := range q.c.Funcs {
		k := (begin + i) % len(q.c.Funcs)
		f := q.c.Funcs[k]
		if deep == 0 || !types.Below(q.c.Lattice, value.TypeOf(q.c.Lattice, f), t) {
			continue
		}
		made := fun(int64(k))
		for _, captured := range f.Caps {
			v, ok := d.fitting(q, captured, deep-1, more)
			if !ok {
				return v, false
			}
			made.Parts = append(made.Parts, v)
		}
		return made, true
	}
	return api.Value{}, false
}

// other is a question with other values where the labels aren't kept, of the same cells.
func (d *drawer) other(q question, kept func(label int) bool) question {
	heap := append([]api.Cell(nil), q.heap...)
	made := question{q.c, d.changed(&q, q.c.Funcs[0].Param, q.arg, kept), heap, q.limits}
	for i, c := range q.heap {
		heap[i].Value = d.changed(&q, c.Type, c.Value, kept)
	}
	return made
}

// changed is a value of that type that is as v is where that is kept.
func (d *drawer) changed(q *question, t api.Type, v api.Value, kept func(label int) bool) api.Value {
	if !kept(t.Label) {
		if made, ok := d.fitting(q, t, 3, false); ok {
			return made
		}
		return v
	}
	parts := t.Parts
	switch v.Kind {
	case api.Pair:
	case api.Fun:
		parts = q.c.Funcs[v.N].Caps
	default:
		return v
	}
	made := api.Value{Kind: v.Kind, N: v.N}
	for i, part := range v.Parts {
		made.Parts = append(made.Parts, d.changed(q, parts[i], part, kept))
	}
	return made
}

// lower lets the functions give, raise, tell and make by lower labels, as far as they are accepted so: the more an observer sees, the more must be alike.
func (d *drawer) lower() {
	for k := range d.c.Funcs {
		f := &d.c.Funcs[k]
		d.lowerOne(f.Result.Label, func(label int) { f.Result.Label = label })
		if f.Exc != none {
			d.lowerOne(f.Exc, func(label int) { f.Exc = label })
		}
		for at := range f.Code {
			switch i := &f.Code[at]; i.Op {
			case api.OpOut:
				d.lowerOne(int(i.A), func(label int) { i.A = int64(label) })
			case api.OpNew:
				d.lowerOne(i.T.Label, func(label int) { i.T.Label = label })
			}
		}
	}
}

// lowerOne tries the bottom, and then a label that is drawn.
func (d *drawer) lowerOne(before int, change func(label int)) {
	for _, least := range []int{lattice.Bottom(d.c.Lattice), d.Intn(len(d.c.Lattice.Names))} {
		if least == before || !lattice.Leq(d.c.Lattice, least, before) {
			continue
		}
		change(least)
		if d.again() {
			return
		}
	}
	change(before)
	d.again()
}

// again makes all certificates anew, and tells whether they are accepted.
func (d *drawer) again() bool {
	for k := range d.c.Funcs {
		d.k = k
		for at := range d.own().Points {
			d.own().Points[at].Env = lattice.Bottom(d.c.Lattice)
		}
		d.certify()
	}
	_, _, e := verify.Check(d.c)
	return e == api.OK
}
