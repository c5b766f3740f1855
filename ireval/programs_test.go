package ireval_test

import (
	"math/rand"
	"slices"

	"palisade/api"
	"palisade/check"
	"palisade/types"
)

// maker draws expressions of types, of whose labels one of so many is high. Where none is, they are accepted, but for what grows too great.
type maker struct {
	*rand.Rand
	high int
}

func (m *maker) label() int {
	if m.Intn(m.high) == 0 {
		return 1
	}
	return 0
}

func (m *maker) typ(deep int) api.Type {
	kind := 1 + m.Intn(5)
	if deep == 1 || m.Intn(3) == 0 {
		kind = 1 + m.Intn(2)
	}
	t := api.Type{Kind: kind, Label: m.label()}
	switch kind {
	case api.Pair:
		t.Parts = []api.Type{m.typ(deep - 1), m.typ(deep - 1)}
	case api.Fun:
		return m.takes(m.typ(deep-1), m.typ(deep-1))
	case api.Ref:
		t.Parts = []api.Type{m.typ(deep - 1)}
	}
	return t
}

func (m *maker) takes(s, t api.Type) api.Type {
	return api.Type{Kind: api.Fun, Parts: []api.Type{s, t}, Heap: m.label(), Exc: m.label()}
}

func (m *maker) name() string {
	return []string{"x", "y", "f", "g", "z"}[m.Intn(5)]
}

func literal(n int64) api.Expr {
	return api.Expr{Kind: api.EInt, N: n}
}

func name(text string) api.Expr {
	return api.Expr{Kind: api.EVar, Text: text}
}

func expr(kind int, parts ...api.Expr) api.Expr {
	return api.Expr{Kind: kind, Parts: parts}
}

func binary(op int, a, b api.Expr) api.Expr {
	return api.Expr{Kind: api.EBin, N: int64(op), Parts: []api.Expr{a, b}}
}

func scoped(env []check.Bind, name string, t api.Type) []check.Bind {
	return append(slices.Clone(env), check.Bind{Name: name, Type: t})
}

// expr is an expression of that type, about so deep.
func (m *maker) expr(env []check.Bind, t api.Type, deep int) api.Expr {
	if deep <= 1 || m.Intn(7) == 0 {
		return m.leaf(env, t, deep)
	}
	whole := typed(api.Int)
	switch m.Intn(15) {
	case 0, 1:
		s, n := m.typ(2), m.name()
		return api.Expr{Kind: api.ELet, Text: n, Parts: []api.Expr{m.expr(env, s, deep-1), m.expr(scoped(env, n, s), t, deep-1)}}
	case 2:
		return expr(api.EIf, m.expr(env, typed(api.Bool), deep-1), m.expr(env, t, deep-1), m.expr(env, t, deep-1))
	case 3, 4:
		s := m.typ(2)
		return expr(api.ECall, m.expr(env, m.takes(s, t), deep-1), m.expr(env, s, deep-1))
	case 5:
		return expr(api.EFirst, m.expr(env, typed(api.Pair, t, m.typ(2)), deep-1))
	case 6:
		return expr(api.ESecond, m.expr(env, typed(api.Pair, m.typ(2), t), deep-1))
	case 7:
		return expr(api.EGet, m.expr(env, typed(api.Ref, t), deep-1))
	case 8:
		return api.Expr{Kind: api.ERaise, Type: t, Parts: []api.Expr{m.expr(env, whole, deep-1)}}
	case 9, 10:
		n := m.name()
		return api.Expr{Kind: api.ETry, Text: n, Parts: []api.Expr{m.expr(env, t, deep-1), m.expr(scoped(env, n, whole), t, deep-1)}}
	case 11:
		return expr(api.ESeq, m.expr(env, m.typ(2), deep-1), m.expr(env, t, deep-1))
	case 12:
		return m.loop(env, t, deep)
	}
	return m.leaf(env, t, deep)
}

// loop is a function that calls itself a few times, till it gives something of that type.
func (m *maker) loop(env []check.Bind, t api.Type, deep int) api.Expr {
	f, n, whole := m.name(), "n", typed(api.Int)
	again := expr(api.ECall, name(f), binary(api.OpSub, name(n), literal(1)))
	if m.Intn(2) == 0 {
		again = expr(api.ESeq, api.Expr{Kind: api.EOut, N: int64(m.Intn(2)), Parts: []api.Expr{name(n)}}, again)
	}
	if m.Intn(3) == 0 {
		again = api.Expr{Kind: api.ETry, Text: "z", Parts: []api.Expr{again, m.expr(env, t, deep-4)}}
	}
	made := m.function(f, n, m.takes(whole, t))
	within := scoped(scoped(env, f, m.takes(whole, t)), n, whole)
	made.Parts = []api.Expr{expr(api.EIf, binary(api.OpLess, literal(0), name(n)), again, m.expr(within, t, deep-3))}
	return expr(api.ECall, made, literal(int64(m.Intn(5))))
}

func (m *maker) function(text, arg string, t api.Type) api.Expr {
	return api.Expr{Kind: api.EFun, Text: text, Arg: arg, Type: t.Parts[0], Give: t.Parts[1], N: int64(t.Heap), M: int64(t.Exc)}
}

// leaf is a name of that type, if there is one, or what makes a value of it.
func (m *maker) leaf(env []check.Bind, t api.Type, deep int) api.Expr {
	if m.Intn(2) == 0 {
		for _, i := range m.Perm(len(env)) {
			if types.Same(env[i].Type, t) {
				return name(env[i].Name)
			}
		}
	}
	whole := typed(api.Int)
	switch {
	case t.Kind == api.Pair:
		return expr(api.EPair, m.expr(env, t.Parts[0], deep-1), m.expr(env, t.Parts[1], deep-1))
	case t.Kind == api.Ref:
		return api.Expr{Kind: api.ENew, Type: t.Parts[0], Parts: []api.Expr{m.expr(env, t.Parts[0], deep-1)}}
	case t.Kind == api.Fun:
		made := m.function(m.name(), m.name(), t)
		made.Parts = []api.Expr{m.expr(scoped(scoped(env, made.Text, t), made.Arg, made.Type), made.Give, deep-1)}
		return made
	case deep > 1 && t.Kind == api.Int:
		return m.integer(env, deep)
	case deep > 1 && m.Intn(2) == 0:
		return expr(api.ENot, m.expr(env, t, deep-1))
	case deep > 1:
		return binary(api.OpLess+m.Intn(2), m.expr(env, whole, deep-1), m.expr(env, whole, deep-1))
	}
	return api.Expr{Kind: t.Kind, N: int64(m.Intn(2))}
}

func (m *maker) integer(env []check.Bind, deep int) api.Expr {
	whole := typed(api.Int)
	switch m.Intn(4) {
	case 0:
		s := m.typ(2)
		return expr(api.ESet, m.expr(env, typed(api.Ref, s), deep-1), m.expr(env, s, deep-1))
	case 1:
		return api.Expr{Kind: api.EOut, N: int64(m.Intn(2)), Parts: []api.Expr{m.expr(env, whole, deep-1)}}
	}
	return binary(api.OpAdd+m.Intn(5), m.expr(env, whole, deep-1), m.expr(env, whole, deep-1))
}

// program is one that may be accepted or not.
func (m *maker) program(deep int) api.Program {
	p := api.Program{Lattice: chain(), Arg: "x", Param: m.typ(2), Result: m.typ(2)}
	if m.high < never {
		p.Exc = 1
	}
	p.Body = m.expr([]check.Bind{{Name: "x", Type: p.Param}}, p.Result, deep)
	return p
}
