package conv_test

import (
	"iter"
	"math/rand"
	"slices"
	"testing"

	"palisade/api"
	"palisade/check"
	"palisade/conv"
	"palisade/ir"
	"palisade/lattice"
	"palisade/syntax"
	"palisade/types"
)

// drawer draws expressions that mostly are of the types that are asked for; labels are drawn so that about as many are accepted as not.
type drawer struct {
	*rand.Rand
	l   api.Lattice
	odd int // of how many expressions one is of another shape than is asked for
}

func (d *drawer) label() int {
	return d.Intn(len(d.l.Names))
}

// lowish and highish are labels that let more through, where they bound from below and from above.
func (d *drawer) lowish() int {
	if d.Intn(3) > 0 {
		return lattice.Bottom(d.l)
	}
	return d.label()
}

func (d *drawer) highish() int {
	if d.Intn(5) > 0 {
		return lattice.Top(d.l)
	}
	return d.label()
}

func (d *drawer) exc() int {
	if d.Intn(6) == 0 {
		return none
	}
	return d.highish()
}

func (d *drawer) typ(deep int) api.Type {
	kind := 1 + d.Intn(5)
	if deep == 1 || d.Intn(3) == 0 {
		kind = 1 + d.Intn(2)
	}
	switch kind {
	case api.Pair:
		return pairOf(d.label(), d.typ(deep-1), d.typ(deep-1))
	case api.Fun:
		return funOf(d.lowish(), d.typ(deep-1), d.typ(deep-1), d.highish(), d.exc())
	case api.Ref:
		return refOf(d.lowish(), d.typ(deep-1))
	}
	return api.Type{Kind: kind, Label: d.highish()}
}

// relabelled is a type of the same shape, its outer labels put up, so that what is made of it mostly fits.
func (d *drawer) relabelled(t api.Type) api.Type {
	t.Label = d.highish()
	if t.Kind == api.Pair {
		t.Parts = []api.Type{d.relabelled(t.Parts[0]), d.relabelled(t.Parts[1])}
	}
	return t
}

func shaped(s, t api.Type) bool {
	return s.Kind == t.Kind && slices.EqualFunc(s.Parts, t.Parts, shaped)
}

func (d *drawer) name() string {
	return []string{"x", "y", "z", "f", "g", "h"}[d.Intn(6)]
}

func with(env []check.Bind, name string, t api.Type) []check.Bind {
	return append(slices.Clone(env), check.Bind{Name: name, Type: t})
}

// expr is an expression of that shape, so deep at most.
func (d *drawer) expr(env []check.Bind, t api.Type, deep int) api.Expr {
	if d.Intn(d.odd) == 0 {
		t = d.typ(2)
	}
	if deep <= 1 || d.Intn(6) == 0 {
		return d.leaf(env, t, deep)
	}
	switch d.Intn(14) {
	case 0, 1:
		s, n := d.typ(2), d.name()
		return let(n, d.expr(env, s, deep-1), d.expr(with(env, n, s), t, deep-1))
	case 2:
		return expr(api.EIf, d.expr(env, boolean(d.label()), deep-1), d.expr(env, t, deep-1), d.expr(env, t, deep-1))
	case 3, 4:
		s := d.typ(2)
		return expr(api.ECall, d.expr(env, funOf(0, d.relabelled(s), t, lattice.Top(d.l), d.exc()), deep-1), d.expr(env, s, deep-1))
	case 5:
		return expr(api.EFirst, d.expr(env, pairOf(0, t, d.typ(2)), deep-1))
	case 6:
		return expr(api.ESecond, d.expr(env, pairOf(0, d.typ(2), t), deep-1))
	case 7:
		return expr(api.EGet, d.expr(env, refOf(0, d.relabelled(t)), deep-1))
	case 8:
		return api.Expr{Kind: api.ERaise, Type: d.relabelled(t), Parts: []api.Expr{d.expr(env, integer(0), deep-1)}}
	case 9, 10:
		n := d.name()
		return api.Expr{Kind: api.ETry, Text: n, Parts: []api.Expr{d.expr(env, t, deep-1), d.expr(with(env, n, integer(0)), t, deep-1)}}
	case 11:
		return expr(api.ESeq, d.expr(env, d.typ(2), deep-1), d.expr(env, t, deep-1))
	}
	return d.leaf(env, t, deep)
}

// leaf is a name of that shape, if there is one, or what makes a value of it.
func (d *drawer) leaf(env []check.Bind, t api.Type, deep int) api.Expr {
	if d.Intn(4) > 0 {
		for _, i := range d.Perm(len(env)) {
			if shaped(env[i].Type, t) {
				return name(env[i].Name)
			}
		}
	}
	switch {
	case t.Kind == api.Pair:
		return expr(api.EPair, d.expr(env, t.Parts[0], deep-1), d.expr(env, t.Parts[1], deep-1))
	case t.Kind == api.Ref:
		return api.Expr{Kind: api.ENew, Type: t.Parts[0], Parts: []api.Expr{d.expr(env, t.Parts[0], deep-1)}}
	case t.Kind == api.Fun:
		return d.function(env, t, deep)
	case deep > 1 && t.Kind == api.Int:
		return d.integer(env, deep)
	case deep > 1 && d.Intn(2) == 0:
		return expr(api.ENot, d.expr(env, t, deep-1))
	case deep > 1:
		return api.Expr{Kind: api.EBin, N: int64(api.OpLess + d.Intn(2)), Parts: []api.Expr{d.expr(env, integer(0), deep-1), d.expr(env, integer(0), deep-1)}}
	}
	return api.Expr{Kind: t.Kind, N: int64(d.Intn(2))}
}

func (d *drawer) integer(env []check.Bind, deep int) api.Expr {
	switch d.Intn(4) {
	case 0:
		s := d.typ(2)
		return expr(api.ESet, d.expr(env, refOf(0, d.relabelled(s)), deep-1), d.expr(env, s, deep-1))
	case 1:
		return api.Expr{Kind: api.EOut, N: int64(d.highish()), Parts: []api.Expr{d.expr(env, integer(0), deep-1)}}
	}
	return api.Expr{Kind: api.EBin, N: int64(api.OpAdd + d.Intn(5)), Parts: []api.Expr{d.expr(env, integer(0), deep-1), d.expr(env, integer(0), deep-1)}}
}

func (d *drawer) function(env []check.Bind, t api.Type, deep int) api.Expr {
	text, arg := d.name(), d.name()
	e := api.Expr{Kind: api.EFun, Text: text, Arg: arg, Type: t.Parts[0], Give: d.relabelled(t.Parts[1]), N: int64(t.Heap), M: int64(t.Exc)}
	within := with(with(env, text, t), arg, e.Type)
	e.Parts = []api.Expr{d.expr(within, t.Parts[1], deep-1)}
	return e
}

// drawnPrograms is that many formed programs, accepted or not, whose places are all unlike.
func drawnPrograms(seed int64, many int) iter.Seq[api.Program] {
	return func(yield func(api.Program) bool) {
		draw := rand.New(rand.NewSource(seed))
		all := lattices()
		for n := 0; n < many; {
			d := &drawer{Rand: draw, l: all[draw.Intn(len(all))], odd: 1 << (4 + draw.Intn(8))}
			p := api.Program{Lattice: d.l, Arg: d.name(), Param: d.typ(3), Exc: d.exc()}
			shape := d.typ(3)
			p.Result = d.relabelled(shape)
			p.Body = d.expr([]check.Bind{{Name: p.Arg, Type: p.Param}}, shape, 2+n%5)
			place := -40
			p.Body = placed(p.Body, &place)
			// What an ENew or an ERaise was drawn for may have grown too deep to be written.
			if !syntax.Formed(p) {
				continue
			}
			if n++; !yield(p) {
				return
			}
		}
	}
}

func placed(e api.Expr, place *int) api.Expr {
	*place += 3
	e.At = *place
	for i := range e.Parts {
		e.Parts[i] = placed(e.Parts[i], place)
	}
	return e
}

// acceptedPrograms is that many programs that are accepted.
func acceptedPrograms(seed int64, many int) iter.Seq[api.Program] {
	return func(yield func(api.Program) bool) {
		n := 0
		for p := range drawnPrograms(seed, 1<<30) {
			if _, _, _, e := check.Program(p); e != api.OK {
				continue
			}
			if n++; !yield(p) || n == many {
				return
			}
		}
	}
}

// count adds how many expressions of each Kind stand in e.
func count(e api.Expr, kinds map[int]int) {
	kinds[e.Kind]++
	for _, part := range e.Parts {
		count(part, kinds)
	}
}

// TestDrawn (P11.1, P11.2, P11.3): drawn programs that are accepted, against the reference; what they are converted to is right.
func TestDrawn(t *testing.T) {
	kinds := map[int]int{}
	captured, gone := 0, 0
	for p := range acceptedPrograms(11, 8000) {
		want := referenceFns(p)
		if !sameCaps(conv.Caps(p), want) {
			t.Fatalf("%s: %v", printed(p), conv.Caps(p))
		}
		got, at, e := conv.Convert(p)
		if e != api.OK || at != 0 || !sameFns(got, want) {
			t.Fatalf("%s: %d, error %d:\n%swant\n%s", printed(p), at, e, toldAll(p, got), toldAll(p, want))
		}
		if k, e := ir.Check(p.Lattice, got); k != 0 || e != api.OK {
			t.Fatalf("%s: %sfunction %d isn't right", printed(p), toldAll(p, got), k)
		}
		count(p.Body, kinds)
		for _, f := range got {
			captured += len(f.Caps)
			if f.Out == none {
				gone++
			}
		}
	}
	for kind := api.EInt; kind <= api.ENot; kind++ {
		if kinds[kind] < 200 {
			t.Errorf("Kind %d was met %d times", kind, kinds[kind])
		}
	}
	if captured < 800 || gone < 800 {
		t.Error("too few:", captured, gone)
	}
}

func toldAll(p api.Program, fns []ir.Fn) string {
	text := ""
	for _, f := range fns {
		text += told(p.Lattice, f)
	}
	return text
}

func sameCaps(caps [][]api.Type, fns []ir.Fn) bool {
	return slices.EqualFunc(caps, fns, func(caps []api.Type, f ir.Fn) bool { return slices.EqualFunc(caps, f.Caps, types.Same) })
}

// sameFns tells whether all of both is alike, where a list of no elements is nil or empty.
func sameFns(a, b []ir.Fn) bool {
	return slices.EqualFunc(a, b, func(f, g ir.Fn) bool {
		return types.Same(f.Param, g.Param) && types.Same(f.Result, g.Result) && slices.EqualFunc(f.Caps, g.Caps, types.Same) && f.Heap == g.Heap && f.Exc == g.Exc &&
			slices.EqualFunc(f.Slots, g.Slots, types.Same) && sameNodes(f.Body, g.Body) && f.Out == g.Out
	})
}

func sameNodes(a, b []ir.Node) bool {
	return slices.EqualFunc(a, b, func(m, n ir.Node) bool {
		return m.Op == n.Op && m.Dst == n.Dst && m.A == n.A && m.B == n.B && m.N == n.N && m.Env == n.Env &&
			types.Same(m.T, n.T) && slices.Equal(m.Args, n.Args) && sameNodes(m.Body, n.Body) && sameNodes(m.Else, n.Else)
	})
}
