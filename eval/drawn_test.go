package eval_test

import (
	"math/rand"
	"reflect"
	"slices"
	"testing"

	"palisade/api"
	"palisade/eval"
	"palisade/syntax"
)

// shape is a type of which only the kinds are looked at.
type shape = api.Type

func integerShape() shape {
	return shape{Kind: api.Int}
}

func booleanShape() shape {
	return shape{Kind: api.Bool}
}

func pairShape(s, t shape) shape {
	return shape{Kind: api.Pair, Parts: []shape{s, t}}
}

func funShape(s, t shape) shape {
	return shape{Kind: api.Fun, Parts: []shape{s, t}, Exc: api.None}
}

func refShape(t shape) shape {
	return shape{Kind: api.Ref, Parts: []shape{t}}
}

// scoped is a name with the shape of its value.
type scoped struct {
	name  string
	shape shape
}

// drawer draws expressions that mostly are of the shapes that are asked for, so that runs go far.
type drawer struct {
	*rand.Rand
	odd int // of how many expressions one is of another shape than is asked for
}

func (d *drawer) name() string {
	return []string{"x", "y", "f", "g", "z"}[d.Intn(5)]
}

func (d *drawer) shape(deep int) shape {
	kind := 1 + d.Intn(5)
	if deep == 1 || d.Intn(3) == 0 {
		kind = 1 + d.Intn(2)
	}
	switch kind {
	case api.Pair:
		return pairShape(d.shape(deep-1), d.shape(deep-1))
	case api.Fun:
		return funShape(d.shape(deep-1), d.shape(deep-1))
	case api.Ref:
		return refShape(d.shape(deep - 1))
	}
	return shape{Kind: kind}
}

func (d *drawer) expr(env []scoped, t shape, deep int) api.Expr {
	if d.Intn(d.odd) == 0 {
		t = d.shape(2)
	}
	if deep <= 1 || d.Intn(7) == 0 {
		return d.leaf(env, t, deep)
	}
	switch d.Intn(15) {
	case 0, 1:
		s, n := d.shape(2), d.name()
		return api.Expr{Kind: api.ELet, Text: n, Parts: []api.Expr{d.expr(env, s, deep-1), d.expr(with(env, n, s), t, deep-1)}}
	case 2:
		return expr(api.EIf, d.expr(env, booleanShape(), deep-1), d.expr(env, t, deep-1), d.expr(env, t, deep-1))
	case 3, 4:
		s := d.shape(2)
		return expr(api.ECall, d.expr(env, funShape(s, t), deep-1), d.expr(env, s, deep-1))
	case 5:
		return expr(api.EFirst, d.expr(env, pairShape(t, d.shape(2)), deep-1))
	case 6:
		return expr(api.ESecond, d.expr(env, pairShape(d.shape(2), t), deep-1))
	case 7:
		return expr(api.EGet, d.expr(env, refShape(t), deep-1))
	case 8:
		return api.Expr{Kind: api.ERaise, Type: integerShape(), Parts: []api.Expr{d.expr(env, integerShape(), deep-1)}}
	case 9, 10:
		n := d.name()
		return api.Expr{Kind: api.ETry, Text: n, Parts: []api.Expr{d.expr(env, t, deep-1), d.expr(with(env, n, integerShape()), t, deep-1)}}
	case 11:
		return expr(api.ESeq, d.expr(env, d.shape(2), deep-1), d.expr(env, t, deep-1))
	case 12:
		return d.loop(env, t, deep)
	}
	return d.leaf(env, t, deep)
}

func with(env []scoped, name string, s shape) []scoped {
	return append(slices.Clone(env), scoped{name, s})
}

// loop is a function that calls itself a few times, till it gives something of that shape.
func (d *drawer) loop(env []scoped, t shape, deep int) api.Expr {
	f, n := d.name(), "n"
	less := api.Expr{Kind: api.EBin, N: api.OpSub, Parts: []api.Expr{name(n), number(1)}}
	again := expr(api.ECall, name(f), less)
	if d.Intn(2) == 0 {
		again = expr(api.ESeq, api.Expr{Kind: api.EOut, N: int64(d.Intn(2)), Parts: []api.Expr{name(n)}}, again)
	}
	if d.Intn(3) == 0 {
		again = api.Expr{Kind: api.ETry, Text: "z", Parts: []api.Expr{again, d.expr(env, t, deep-4)}}
	}
	within := with(with(env, f, funShape(integerShape(), t)), n, integerShape())
	more := api.Expr{Kind: api.EBin, N: api.OpLess, Parts: []api.Expr{number(0), name(n)}}
	made := function(f, n, expr(api.EIf, more, again, d.expr(within, t, deep-3)))
	return expr(api.ECall, made, number(int64(d.Intn(5))))
}

// leaf is a name of that shape, if there is one, or what makes a value of it.
func (d *drawer) leaf(env []scoped, t shape, deep int) api.Expr {
	if d.Intn(2) == 0 {
		for _, i := range d.Perm(len(env)) {
			if reflect.DeepEqual(env[i].shape, t) {
				return name(env[i].name)
			}
		}
	}
	switch {
	case t.Kind == api.Pair:
		return expr(api.EPair, d.expr(env, t.Parts[0], deep-1), d.expr(env, t.Parts[1], deep-1))
	case t.Kind == api.Ref:
		return api.Expr{Kind: api.ENew, Type: t.Parts[0], Parts: []api.Expr{d.expr(env, t.Parts[0], deep-1)}}
	case t.Kind == api.Fun:
		f, n := d.name(), d.name()
		return function(f, n, d.expr(with(with(env, f, t), n, t.Parts[0]), t.Parts[1], deep-1))
	case deep > 1 && t.Kind == api.Int:
		return d.integer(env, deep)
	case deep > 1 && d.Intn(2) == 0:
		return expr(api.ENot, d.expr(env, t, deep-1))
	case deep > 1:
		return api.Expr{Kind: api.EBin, N: int64(api.OpLess + d.Intn(2)), Parts: []api.Expr{d.expr(env, integerShape(), deep-1), d.expr(env, integerShape(), deep-1)}}
	}
	return api.Expr{Kind: t.Kind, N: int64(d.Intn(2))}
}

func (d *drawer) integer(env []scoped, deep int) api.Expr {
	switch d.Intn(4) {
	case 0:
		s := d.shape(2)
		return expr(api.ESet, d.expr(env, refShape(s), deep-1), d.expr(env, s, deep-1))
	case 1:
		return api.Expr{Kind: api.EOut, N: int64(d.Intn(2)), Parts: []api.Expr{d.expr(env, integerShape(), deep-1)}}
	}
	return api.Expr{Kind: api.EBin, N: int64(api.OpAdd + d.Intn(5)), Parts: []api.Expr{d.expr(env, integerShape(), deep-1), d.expr(env, integerShape(), deep-1)}}
}

// value is of that shape, mostly, but its Funs and Refs may be of none.
func (d *drawer) value(t shape) api.Value {
	switch t.Kind {
	case api.Pair:
		return pair(d.value(t.Parts[0]), d.value(t.Parts[1]))
	case api.Fun:
		v := fun(int64(d.Intn(5)))
		for range d.Intn(4) {
			v.Parts = append(v.Parts, d.value(d.shape(1)))
		}
		return v
	case api.Ref:
		return ref(int64(d.Intn(4)))
	case api.Bool:
		return boolean(int64(d.Intn(2)))
	}
	return integer(int64(d.Uint64()) >> d.Intn(64))
}

// question is what Run is asked.
type question struct {
	p    api.Program
	arg  api.Value
	heap []api.Cell
	fuel int
}

func (q question) run() api.Outcome {
	return eval.Run(q.p, q.arg, q.heap, q.fuel)
}

// drawnQuestion is one whose Body nests so deep at most, but for what the leaves need.
func drawnQuestion(draw *rand.Rand, deep int) question {
	d := &drawer{draw, 1 << (4 + draw.Intn(7))}
	q := question{fuel: 200}
	for range d.Intn(4) {
		s := d.shape(2)
		q.heap = append(q.heap, api.Cell{Type: s, Value: d.value(s)})
	}
	s := d.shape(3)
	q.arg = d.value(s)
	env := []scoped{{"x", s}}
	q.p = around(d.expr(env, d.shape(3), deep))
	// What an ENew was drawn for may have grown too deep to be written.
	if !syntax.Formed(q.p) {
		return drawnQuestion(draw, deep)
	}
	return q
}

// plain is v with nil for each list of no elements.
func plain(v any) any {
	return whole(reflect.ValueOf(v), false).Interface()
}

func alike(a, b any) bool {
	return reflect.DeepEqual(plain(a), plain(b))
}

// countKinds adds how many expressions of each Kind stand in e.
func countKinds(e api.Expr, kinds map[int]int) {
	kinds[e.Kind]++
	for _, part := range e.Parts {
		countKinds(part, kinds)
	}
}

// TestDrawn (P9.1): drawn programs, arguments and cells, against the reference: with fuel that mostly is enough, and with less.
func TestDrawn(t *testing.T) {
	draw := rand.New(rand.NewSource(9))
	ends, kinds := map[int]int{}, map[int]int{}
	for n := range 24000 {
		q := drawnQuestion(draw, 1+n%9)
		for range 2 {
			want := refer(q.p, q.arg, q.heap, q.fuel)
			got := q.run()
			ends[got.Kind]++
			if !alike(got, want) {
				t.Fatalf("%+v:\n%s\nwant\n%s", q, told(got), told(want))
			}
			if got.Kind == api.Returned {
				countKinds(q.p.Body, kinds)
			}
			q.fuel = draw.Intn(got.Steps + 1)
		}
	}
	if ends[api.Returned] < 8000 || ends[api.Raised] < 1200 || ends[api.OutOfFuel] < 8000 || ends[api.Stuck] < 1200 {
		t.Error("ends:", ends)
	}
	for kind := api.EInt; kind <= api.ENot; kind++ {
		if kinds[kind] < 400 {
			t.Errorf("Kind %d was in what returned %d times", kind, kinds[kind])
		}
	}
}

// TestMoreFuel (P9.3): with more fuel a run that has ended otherwise than OutOfFuel ends the same, and one out of fuel has told a beginning of what it tells then.
func TestMoreFuel(t *testing.T) {
	draw := rand.New(rand.NewSource(93))
	events, grown := 0, 0
	for n := range 2500 {
		q := drawnQuestion(draw, 1+n%9)
		last := q.run()
		if last.Kind != api.OutOfFuel {
			q.fuel = api.MaxSteps
			if !alike(q.run(), last) {
				t.Fatalf("%+v: another end", q)
			}
			q.fuel = last.Steps
			if !alike(q.run(), last) {
				t.Fatalf("%+v: another end with just enough", q)
			}
		}
		for q.fuel = range last.Steps {
			o := q.run()
			if o.Kind != api.OutOfFuel || o.Steps != q.fuel || !reflect.DeepEqual(o.Value, api.Value{}) {
				t.Fatalf("%+v: %s", q, told(o))
			}
			if len(o.Trace) > len(last.Trace) || !slices.Equal(o.Trace, last.Trace[:len(o.Trace)]) || len(o.Heap) > len(last.Heap) {
				t.Fatalf("%+v: %s is no beginning of %s", q, told(o), told(last))
			}
			for i, cell := range o.Heap {
				if !alike(cell.Type, last.Heap[i].Type) {
					t.Fatalf("%+v: the cell %d has another Type", q, i)
				}
			}
			events += len(o.Trace)
			grown += len(last.Trace) - len(o.Trace)
		}
	}
	if events < 1200 || grown < 1200 {
		t.Error("too few events:", events, grown)
	}
}
