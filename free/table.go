package free

import (
	"slices"

	"palisade/api"
	"palisade/walk"
)

// Table is body's functions, in the order of their numbers, each with what it captures, where arg alone stands around body.
func Table(arg string, body api.Expr) []Entry {
	if !small(body) {
		return nil
	}
	return enter(nil, []string{arg}, body)
}

// enter puts e's functions behind those that stand ahead of it.
func enter(table []Entry, scope []string, e api.Expr) []Entry {
	if e.Kind == api.EFun {
		scope = taken(scope, gather(nil, nil, e))
		table = append(table, Entry{own(e), scope})
	}
	for i, part := range e.Parts {
		table = enter(table, slices.Concat(scope, bound(e, i)), part)
	}
	return table
}

// own is e in memory of its own. Its types may be of any size, as e may be unformed.
func own(e api.Expr) api.Expr {
	e.Type, e.Give = ownType(e.Type), ownType(e.Give)
	e.Parts = slices.Clone(e.Parts)
	for i, part := range e.Parts {
		e.Parts[i] = own(part)
	}
	return e
}

func ownType(t api.Type) api.Type {
	return walk.Copy(t, func(t api.Type) []api.Type { return t.Parts }, func(t api.Type, parts []api.Type) api.Type {
		t.Parts = parts
		return t
	})
}
