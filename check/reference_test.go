package check_test

import (
	"slices"

	"palisade/api"
	"palisade/check"
	"palisade/types"
)

// wrong is an error and its place.
type wrong struct {
	at  int
	err api.Errno
}

// reference is the chapter's rules, written once more: names are a list that is copied and raised where a function is made, errors come back as results, and labels are asked of the order's rows.
type reference struct {
	l api.Lattice
}

func (r reference) leq(a, b int) bool {
	return r.l.Order[a][b]
}

// least is the label that is above all these, None apart, and below all such.
func (r reference) least(labels ...int) int {
	labels = slices.DeleteFunc(slices.Clone(labels), func(a int) bool { return a == api.None })
	if len(labels) == 0 {
		return api.None
	}
	above := func(b int) bool {
		return !slices.ContainsFunc(labels, func(a int) bool { return !r.leq(a, b) })
	}
	for b := range r.l.Names {
		if !above(b) {
			continue
		}
		lowest := true
		for c := range r.l.Names {
			lowest = lowest && (!above(c) || r.leq(b, c))
		}
		if lowest {
			return b
		}
	}
	panic("no join")
}

func (r reference) bottom() int {
	for a := range r.l.Names {
		all := true
		for b := range r.l.Names {
			all = all && r.leq(a, b)
		}
		if all {
			return a
		}
	}
	panic("no bottom")
}

func (r reference) up(t api.Type, labels ...int) api.Type {
	t.Label = r.least(append(labels, t.Label)...)
	return t
}

func (r reference) fit(t, u api.Type, at int) *wrong {
	if types.Below(r.l, t, u) {
		return nil
	}
	if _, ok := types.Join(r.l, t, u); ok {
		return &wrong{at, api.ErrFlow}
	}
	return &wrong{at, api.ErrType}
}

// kinds are what the rule of each Kind wants its Parts to be, 0 for anything.
func kinds(e api.Expr) []int {
	switch e.Kind {
	case api.EIf:
		return []int{api.Bool, 0, 0}
	case api.ECall:
		return []int{api.Fun, 0}
	case api.EFirst, api.ESecond:
		return []int{api.Pair}
	case api.EGet:
		return []int{api.Ref}
	case api.ESet:
		return []int{api.Ref, 0}
	case api.EOut, api.ERaise:
		return []int{api.Int}
	case api.EBin:
		return []int{api.Int, api.Int}
	case api.ENot:
		return []int{api.Bool}
	}
	return make([]int, len(e.Parts))
}

// judge is T and X, or what is wrong.
func (r reference) judge(env []check.Bind, pc, heap int, e api.Expr) (api.Type, int, *wrong) {
	if e.Kind == api.EFun {
		return r.function(env, pc, e)
	}
	// The Parts come first, with what each is asked for itself.
	ts, xs, next := []api.Type{}, []int{}, pc
	for i, part := range e.Parts {
		names, at := env, next
		if i == 1 && e.Kind == api.ELet {
			names = append(slices.Clone(env), check.Bind{Name: e.Text, Type: ts[0]})
		}
		if i == 1 && e.Kind == api.ETry {
			names = append(slices.Clone(env), check.Bind{Name: e.Text, Type: integer(next)})
		}
		if i > 0 && e.Kind == api.EIf {
			at = ts[0].Label
		}
		t, x, w := r.judge(names, at, heap, part)
		if w != nil {
			return api.Type{}, 0, w
		}
		if want := kinds(e)[i]; want != 0 && t.Kind != want {
			return api.Type{}, 0, &wrong{part.At, api.ErrType}
		}
		ts, xs, next = append(ts, t), append(xs, x), r.least(at, x)
	}
	t, x, w := r.whole(env, pc, heap, next, e, ts, xs)
	if w == nil && !types.Formed(r.l, t) {
		w = &wrong{e.At, api.ErrLimit}
	}
	if w != nil {
		return api.Type{}, 0, w
	}
	return r.up(t, pc, x), x, nil
}

// whole is what the rule says behind the Parts.
func (r reference) whole(env []check.Bind, pc, heap, now int, e api.Expr, ts []api.Type, xs []int) (t api.Type, x int, w *wrong) {
	x = r.least(xs...)
	flow := func(bound int, labels ...int) {
		if w == nil && slices.ContainsFunc(labels, func(a int) bool { return !r.leq(a, bound) }) {
			w = &wrong{e.At, api.ErrFlow}
		}
	}
	switch e.Kind {
	case api.EInt, api.EBool:
		t = api.Type{Kind: e.Kind, Label: pc}
	case api.EVar:
		w = &wrong{e.At, api.ErrType}
		for _, b := range env {
			if b.Name == e.Text {
				t, w = b.Type, nil
			}
		}
	case api.ELet, api.ESeq:
		t = ts[1]
	case api.EIf, api.ETry:
		both, ok := types.Join(r.l, ts[len(ts)-2], ts[len(ts)-1])
		if !ok {
			return t, x, &wrong{e.At, api.ErrType}
		}
		t = r.up(both, ts[0].Label)
		if e.Kind == api.ETry {
			t, x = r.up(both, r.least(pc, xs[0])), xs[1]
		}
	case api.ECall:
		f := ts[0]
		if w = r.fit(ts[1], f.Parts[0], e.Parts[1].At); w != nil {
			return t, x, w
		}
		called := r.least(f.Label, now)
		flow(f.Heap, called, heap)
		t = r.up(f.Parts[1], called)
		if f.Exc != api.None {
			x = r.least(x, f.Exc, called)
		}
	case api.EPair:
		t = pairOf(now, r.up(ts[0], now), r.up(ts[1], now))
	case api.EFirst:
		t = r.up(ts[0].Parts[0], ts[0].Label)
	case api.ESecond:
		t = r.up(ts[0].Parts[1], ts[0].Label)
	case api.ENew:
		w = r.fit(ts[0], e.Type, e.Parts[0].At)
		t = refOf(now, e.Type)
	case api.EGet:
		t = r.up(ts[0].Parts[0], ts[0].Label)
	case api.ESet:
		holds := ts[0].Parts[0]
		w = r.fit(r.up(ts[1], now), holds, e.Parts[1].At)
		flow(holds.Label, ts[0].Label, now, heap)
		t = integer(now)
	case api.EOut:
		flow(int(e.N), ts[0].Label, now, heap)
		t = integer(now)
	case api.ERaise:
		t, x = e.Type, r.least(x, ts[0].Label, now)
	case api.EBin:
		t = integer(r.least(ts[0].Label, ts[1].Label, now))
		if e.N == api.OpLess || e.N == api.OpSame {
			t.Kind = api.Bool
		}
		if e.N == api.OpDiv || e.N == api.OpMod {
			x = r.least(x, ts[1].Label, now)
		}
	case api.ENot:
		t = ts[0]
	}
	return t, x, w
}

func (r reference) function(env []check.Bind, pc int, e api.Expr) (api.Type, int, *wrong) {
	f := funOf(r.bottom(), e.Type, e.Give, int(e.N), int(e.M))
	if !types.Formed(r.l, f) {
		return api.Type{}, 0, &wrong{e.At, api.ErrLimit}
	}
	var within []check.Bind
	for _, b := range env {
		within = append(within, check.Bind{Name: b.Name, Type: r.up(b.Type, pc)})
	}
	within = append(within, check.Bind{Name: e.Text, Type: f}, check.Bind{Name: e.Arg, Type: e.Type})
	t, x, w := r.judge(within, r.bottom(), int(e.N), e.Parts[0])
	if w == nil {
		w = r.fit(t, e.Give, e.Parts[0].At)
	}
	if w == nil && x != api.None && (e.M == api.None || !r.leq(x, int(e.M))) {
		w = &wrong{e.At, api.ErrFlow}
	}
	if w != nil {
		return api.Type{}, 0, w
	}
	return r.up(f, pc), api.None, nil
}

// program is the judgement of a whole program.
func (r reference) program(p api.Program) (api.Type, int, *wrong) {
	t, x, w := r.judge([]check.Bind{{Name: p.Arg, Type: p.Param}}, r.bottom(), r.bottom(), p.Body)
	if w == nil {
		w = r.fit(t, p.Result, p.Body.At)
	}
	if w == nil && x != api.None && (p.Exc == api.None || !r.leq(x, p.Exc)) {
		w = &wrong{p.Body.At, api.ErrFlow}
	}
	if w != nil {
		return api.Type{}, 0, w
	}
	return t, x, nil
}
