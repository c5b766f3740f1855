package vm_test

import (
	"math/rand"
	"slices"
	"testing"

	"palisade/api"
	"palisade/types"
	"palisade/value"
	"palisade/verify"
)

// accepted asks of drawn classes that layer 17 accepts, with what fits.
func accepted(seed int64, many int, ask func(d *drawer, q question)) {
	d := &drawer{Rand: rand.New(rand.NewSource(seed))}
	for range many {
		c := d.class()
		if _, _, e := verify.Check(c); e != api.OK {
			continue
		}
		q := question{c: c, limits: api.Limits{Fuel: 400, Frames: 12, Cells: 30}}
		for range d.Intn(3) {
			t := d.typed(1, true)
			d.cell(&q, t, 2)
		}
		if v, ok := d.fitting(&q, c.Funcs[0].Param, 3); ok {
			q.arg = v
			ask(d, q)
		}
	}
}

// cell is a Ref of a cell that is new, or of one that there is.
func (d *drawer) cell(q *question, t api.Type, deep int) (api.Value, bool) {
	for n, c := range q.heap {
		if types.Same(c.Type, t) && d.Intn(2) == 0 {
			return ref(int64(n)), true
		}
	}
	v, ok := d.fitting(q, t, deep)
	q.heap = append(q.heap, api.Cell{Type: t, Value: v})
	return ref(int64(len(q.heap) - 1)), ok
}

// fitting draws a value that fits a type, with cells that do, if there is such a one.
func (d *drawer) fitting(q *question, t api.Type, deep int) (api.Value, bool) {
	switch t.Kind {
	case api.Int:
		return integer(d.Int63n(9)), true
	case api.Bool:
		return boolean(d.Int63n(2)), true
	case api.Pair:
		a, okA := d.fitting(q, t.Parts[0], deep)
		b, okB := d.fitting(q, t.Parts[1], deep)
		return pair(a, b), okA && okB
	case api.Ref:
		return d.cell(q, t.Parts[0], deep)
	}
	for k, f := range q.c.Funcs {
		if deep == 0 || !types.Below(q.c.Lattice, value.TypeOf(q.c.Lattice, f), t) {
			continue
		}
		made := fun(int64(k))
		for _, captured := range f.Caps {
			v, ok := d.fitting(q, captured, deep-1)
			if !ok {
				return v, false
			}
			made.Parts = append(made.Parts, v)
		}
		return made, true
	}
	return api.Value{}, false
}

// fits tells whether what is given fits.
func (q question) fits() bool {
	return value.Fits(q.c.Lattice, q.c.Funcs, q.heap, q.c.Funcs[0].Param, q.arg) && value.Heap(q.c.Lattice, q.c.Funcs, q.heap)
}

// mayEnd tells whether what a run of an accepted class tells and leaves is as it must be.
func (q question) mayEnd(o api.Outcome) bool {
	l, all := q.c.Lattice, q.c.Funcs
	holds := value.Heap(l, all, o.Heap)
	switch o.Kind {
	case api.Returned:
		return holds && value.Fits(l, all, o.Heap, all[0].Result, o.Value)
	case api.Raised:
		return holds && o.Value.Kind == api.Int
	}
	return holds && o.Kind != api.Stuck && o.Value.Kind == 0
}

// TestAccepted (P18.2): runs of accepted classes, given what fits, with cells that hold what fits, aren't Stuck; what they return fits, what they raise is an Int, and all cells hold what fits. What they tell is what the reference tells.
func TestAccepted(t *testing.T) {
	ends, did, deep := map[int]int{}, [28]int{}, 0
	accepted(182, 4000, func(d *drawer, q question) {
		if !q.fits() {
			t.Fatalf("%+v doesn't fit", q)
		}
		o, r := q.run(), q.follow()
		if !q.mayEnd(o) || !alike(o, r.out) {
			t.Fatalf("%+v:\n%s\nwant\n%s", q, told(o), told(r.out))
		}
		ends[o.Kind]++
		for i, n := range r.did {
			did[i] += n
		}
		if r.most > 2 {
			deep++
		}
	})
	if ends[api.Returned] < 1000 || ends[api.Raised] < 100 || ends[api.OutOfFuel] < 10 || ends[api.Exhausted] < 200 || deep < 400 {
		t.Error("too few:", ends, deep)
	}
	for which := api.OpInt; which <= api.OpReturn; which++ {
		if did[which] < 20 {
			t.Error("too few:", which, did)
		}
	}
}

// TestAcceptedLimits (P18.2): so with any limits that there may be.
func TestAcceptedLimits(t *testing.T) {
	ends := map[int]int{}
	accepted(183, 300, func(d *drawer, q question) {
		for _, fuel := range []int{0, 1, 2, 5, 10, 20, api.MaxSteps} {
			for _, frames := range []int{0, 1, 2, 3, 1 << 30} {
				for _, cells := range []int{0, 1, 2, 5, 1 << 30} {
					o := q.fuel(fuel).frames(frames).cells(cells).run()
					if !q.mayEnd(o) {
						t.Fatalf("%+v: %s", q, told(o))
					}
					ends[o.Kind]++
				}
			}
		}
	})
	if ends[api.Returned] < 1000 || ends[api.Raised] < 100 || ends[api.OutOfFuel] < 1000 || ends[api.Exhausted] < 1000 {
		t.Error("too few:", ends)
	}
}

// TestMore (P18.3): with more fuel a run that has ended otherwise than OutOfFuel ends the same; with more frames and more cells one that has ended otherwise than Exhausted does.
func TestMore(t *testing.T) {
	fuels, rooms := map[int]int{}, map[int]int{}
	holds := func(r *rand.Rand, q question) {
		o := q.run()
		more := q.fuel(q.limits.Fuel + r.Intn(1+r.Intn(500)))
		if fuels[o.Kind]++; o.Kind != api.OutOfFuel && !alike(o, more.run()) {
			t.Fatalf("%+v: with more fuel %s, not %s", q, told(more.run()), told(o))
		}
		more = q.frames(q.limits.Frames + r.Intn(4)).cells(q.limits.Cells + r.Intn(4))
		if rooms[o.Kind]++; o.Kind != api.Exhausted && !alike(o, more.run()) {
			t.Fatalf("%+v: with more room %s, not %s", q, told(more.run()), told(o))
		}
		most := question{q.c, q.arg, q.heap, api.Limits{Fuel: api.MaxSteps, Frames: 1 << 40, Cells: 1 << 40}}
		if o.Kind != api.Exhausted && o.Kind != api.OutOfFuel && !alike(o, most.run()) {
			t.Fatalf("%+v: with the most %s, not %s", q, told(most.run()), told(o))
		}
		// What is out of fuel has told a beginning of what it tells with more.
		if at := q.fuel(r.Intn(1 + o.Steps)).run(); at.Kind == api.OutOfFuel && !slices.Equal(at.Trace, o.Trace[:len(at.Trace)]) {
			t.Fatalf("%+v: with less fuel %s, not %s", q, told(at), told(o))
		}
	}
	eachWild(183, 2000, func(w *wild, q question) { holds(w.Rand, q) })
	accepted(184, 600, func(d *drawer, q question) { holds(d.Rand, q) })
	for how := api.Returned; how <= api.Stuck; how++ {
		if fuels[how] < 200 || rooms[how] < 200 {
			t.Error("too few:", fuels, rooms)
		}
	}
}
