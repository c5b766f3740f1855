package check_test

import (
	"math/rand"
	"reflect"
	"slices"
	"testing"

	"palisade/api"
	"palisade/check"
	"palisade/lattice"
	"palisade/syntax"
)

// drawer draws expressions that mostly are of the types that are asked for, so that rules are come to that lie deep; labels are drawn so that about as many are accepted as not.
type drawer struct {
	*rand.Rand
	l    api.Lattice
	next int // the place of the next expression: each has one of its own
	odd  int // of how many expressions one is of another shape than is asked for
}

func (d *drawer) label() int {
	return d.Intn(len(d.l.Names))
}

// lowish and highish are labels that let more through, where they bound from below and from above.
func (d *drawer) lowish() int {
	if d.Intn(3) > 0 {
		return lattice.Bottom(d.l)
	}
	return d.label()
}

func (d *drawer) highish() int {
	if d.Intn(3) > 0 {
		return lattice.Top(d.l)
	}
	return d.label()
}

func (d *drawer) exc() int {
	if d.Intn(4) == 0 {
		return api.None
	}
	return d.highish()
}

func (d *drawer) typ(deep int) api.Type {
	kind := 1 + d.Intn(5)
	if deep == 1 || d.Intn(3) == 0 {
		kind = 1 + d.Intn(2)
	}
	switch kind {
	case api.Pair:
		return pairOf(d.label(), d.typ(deep-1), d.typ(deep-1))
	case api.Fun:
		return funOf(d.label(), d.typ(deep-1), d.typ(deep-1), d.label(), d.exc())
	case api.Ref:
		return refOf(d.label(), d.typ(deep-1))
	}
	return api.Type{Kind: kind, Label: d.highish()}
}

// relabelled is a type of the same shape, its outer labels put up, so that what is made of it mostly fits.
func (d *drawer) relabelled(t api.Type) api.Type {
	t.Label = d.highish()
	if t.Kind == api.Pair {
		t.Parts = []api.Type{d.relabelled(t.Parts[0]), d.relabelled(t.Parts[1])}
	}
	return t
}

func shaped(s, t api.Type) bool {
	return s.Kind == t.Kind && slices.EqualFunc(s.Parts, t.Parts, shaped)
}

func (d *drawer) name() string {
	return []string{"x", "y", "f", "g"}[d.Intn(4)]
}

func (d *drawer) made(e api.Expr, parts ...api.Expr) api.Expr {
	d.next++
	e.At, e.Parts = d.next*3-50, parts
	return e
}

// expr is an expression of that shape, so deep at most.
func (d *drawer) expr(env []check.Bind, t api.Type, deep int) api.Expr {
	if d.Intn(d.odd) == 0 {
		t = d.typ(2)
	}
	if deep <= 1 || d.Intn(6) == 0 {
		return d.leaf(env, t, deep)
	}
	switch d.Intn(13) {
	case 0:
		s, n := d.typ(2), d.name()
		return d.made(api.Expr{Kind: api.ELet, Text: n}, d.expr(env, s, deep-1), d.expr(append(slices.Clone(env), check.Bind{Name: n, Type: s}), t, deep-1))
	case 1:
		return d.made(api.Expr{Kind: api.EIf}, d.expr(env, boolean(d.label()), deep-1), d.expr(env, t, deep-1), d.expr(env, t, deep-1))
	case 2, 3:
		s := d.typ(2)
		return d.made(api.Expr{Kind: api.ECall}, d.expr(env, funOf(0, d.relabelled(s), t, d.highish(), d.exc()), deep-1), d.expr(env, s, deep-1))
	case 4:
		return d.made(api.Expr{Kind: api.EFirst}, d.expr(env, pairOf(0, t, d.typ(2)), deep-1))
	case 5:
		return d.made(api.Expr{Kind: api.ESecond}, d.expr(env, pairOf(0, d.typ(2), t), deep-1))
	case 6:
		return d.made(api.Expr{Kind: api.EGet}, d.expr(env, refOf(0, d.relabelled(t)), deep-1))
	case 7:
		return d.made(api.Expr{Kind: api.ERaise, Type: d.relabelled(t)}, d.expr(env, integer(0), deep-1))
	case 8:
		n := d.name()
		return d.made(api.Expr{Kind: api.ETry, Text: n}, d.expr(env, t, deep-1), d.expr(append(slices.Clone(env), check.Bind{Name: n, Type: integer(0)}), t, deep-1))
	case 9:
		return d.made(api.Expr{Kind: api.ESeq}, d.expr(env, d.typ(2), deep-1), d.expr(env, t, deep-1))
	}
	return d.leaf(env, t, deep)
}

// leaf is a name of that shape, if there is one, or what makes a value of it.
func (d *drawer) leaf(env []check.Bind, t api.Type, deep int) api.Expr {
	if d.Intn(2) == 0 {
		for _, i := range d.Perm(len(env)) {
			if shaped(env[i].Type, t) {
				return d.made(name(env[i].Name))
			}
		}
	}
	switch {
	case t.Kind == api.Pair:
		return d.made(api.Expr{Kind: api.EPair}, d.expr(env, t.Parts[0], deep-1), d.expr(env, t.Parts[1], deep-1))
	case t.Kind == api.Ref:
		return d.made(api.Expr{Kind: api.ENew, Type: t.Parts[0]}, d.expr(env, t.Parts[0], deep-1))
	case t.Kind == api.Fun:
		return d.function(env, t, deep)
	case deep > 1 && t.Kind == api.Int:
		return d.integer(env, deep)
	case deep > 1 && d.Intn(2) == 0:
		return d.made(api.Expr{Kind: api.ENot}, d.expr(env, t, deep-1))
	case deep > 1:
		return d.made(api.Expr{Kind: api.EBin, N: int64(api.OpLess + d.Intn(2))}, d.expr(env, integer(0), deep-1), d.expr(env, integer(0), deep-1))
	}
	return d.made(api.Expr{Kind: t.Kind, N: int64(d.Intn(2))})
}

func (d *drawer) integer(env []check.Bind, deep int) api.Expr {
	switch d.Intn(4) {
	case 0:
		s := d.typ(2)
		return d.made(api.Expr{Kind: api.ESet}, d.expr(env, refOf(0, d.relabelled(s)), deep-1), d.expr(env, s, deep-1))
	case 1:
		return d.made(api.Expr{Kind: api.EOut, N: int64(d.highish())}, d.expr(env, integer(0), deep-1))
	}
	return d.made(api.Expr{Kind: api.EBin, N: int64(api.OpAdd + d.Intn(5))}, d.expr(env, integer(0), deep-1), d.expr(env, integer(0), deep-1))
}

func (d *drawer) function(env []check.Bind, t api.Type, deep int) api.Expr {
	text, arg := d.name(), d.name()
	e := api.Expr{Kind: api.EFun, Text: text, Arg: arg, Type: t.Parts[0], Give: d.relabelled(t.Parts[1]), N: int64(d.lowish()), M: int64(d.exc())}
	if d.Intn(2) == 0 {
		e.N, e.M = int64(t.Heap), int64(t.Exc)
	}
	within := append(slices.Clone(env), check.Bind{Name: text, Type: t}, check.Bind{Name: arg, Type: e.Type})
	return d.made(e, d.expr(within, t.Parts[1], deep-1))
}

// question is what Judge is asked.
type question struct {
	l        api.Lattice
	env      []check.Bind
	pc, heap int
	e        api.Expr
}

// drawnQuestion is one whose expression nests so deep at most, but for what the leaves need.
func drawnQuestion(draw *rand.Rand, deep int) question {
	all := lattices()
	d := &drawer{Rand: draw, l: all[draw.Intn(len(all))], odd: 1 << (3 + draw.Intn(6))}
	q := question{l: d.l, pc: d.lowish(), heap: d.lowish()}
	for range d.Intn(5) {
		q.env = append(q.env, check.Bind{Name: d.name(), Type: d.typ(3)})
	}
	q.e = d.expr(q.env, d.typ(3), deep)
	// What an ENew or an ERaise was drawn for may have grown too deep to be written.
	some := integer(lattice.Bottom(d.l))
	if !syntax.Formed(api.Program{Lattice: d.l, Arg: "x", Param: some, Result: some, Body: q.e}) {
		return drawnQuestion(draw, deep)
	}
	return q
}

func (q question) judge() (api.Type, int, int, api.Errno) {
	return check.Judge(q.l, q.env, q.pc, q.heap, q.e)
}

// TestDrawn (P7.1): drawn expressions, against the reference: T, X, and the place and error of what is refused.
func TestDrawn(t *testing.T) {
	draw := rand.New(rand.NewSource(7))
	told := map[api.Errno]int{}
	accepted := map[int]int{}
	for n := range 40000 {
		q := drawnQuestion(draw, 1+n%6)
		want, exc, w := reference{q.l}.judge(q.env, q.pc, q.heap, q.e)
		got, x, at, err := q.judge()
		told[err]++
		if w != nil {
			if err != w.err || at != w.at || x != api.None || !reflect.DeepEqual(got, api.Type{}) {
				t.Fatalf("%+v: %v, %d, %d, %d; want %+v", q, got, x, at, err, *w)
			}
			continue
		}
		if err != api.OK || at != 0 || x != exc || !reflect.DeepEqual(plain(got), plain(want)) {
			t.Fatalf("%+v: %v, %d, %d, %d; want %v, %d", q, got, x, at, err, want, exc)
		}
		count(q.e, accepted)
	}
	if told[api.OK] < 8000 || told[api.ErrType] < 3000 || told[api.ErrFlow] < 3000 || told[api.ErrLimit] < 10 || told[api.ErrForm] > 0 {
		t.Error("errors told:", told)
	}
	for kind := api.EInt; kind <= api.ENot; kind++ {
		if accepted[kind] < 200 {
			t.Errorf("Kind %d was accepted %d times", kind, accepted[kind])
		}
	}
}

// count adds how many expressions of each Kind stand in e.
func count(e api.Expr, kinds map[int]int) {
	kinds[e.Kind]++
	for _, part := range e.Parts {
		count(part, kinds)
	}
}

// TestDrawnPrograms (P7.2): drawn programs, against the reference.
func TestDrawnPrograms(t *testing.T) {
	draw := rand.New(rand.NewSource(72))
	told := map[api.Errno]int{}
	for n := range 20000 {
		all := lattices()
		d := &drawer{Rand: draw, l: all[draw.Intn(len(all))], odd: 300}
		p := api.Program{Lattice: d.l, Arg: d.name(), Param: d.typ(3), Exc: d.exc()}
		shape := d.typ(3)
		p.Result = d.relabelled(shape)
		p.Body = d.expr([]check.Bind{{Name: p.Arg, Type: p.Param}}, shape, 1+n%5)
		if !syntax.Formed(p) {
			continue
		}
		want, exc, w := reference{p.Lattice}.program(p)
		got, x, at, err := check.Program(p)
		told[err]++
		if w != nil {
			if err != w.err || at != w.at || x != api.None || !reflect.DeepEqual(got, api.Type{}) {
				t.Fatalf("%+v: %v, %d, %d, %d; want %+v", p, got, x, at, err, *w)
			}
			continue
		}
		if err != api.OK || at != 0 || x != exc || !reflect.DeepEqual(plain(got), plain(want)) {
			t.Fatalf("%+v: %v, %d, %d, %d; want %v, %d", p, got, x, at, err, want, exc)
		}
	}
	if told[api.OK] < 4000 || told[api.ErrType] < 500 || told[api.ErrFlow] < 4000 {
		t.Error("errors told:", told)
	}
}
