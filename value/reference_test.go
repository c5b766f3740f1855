package value_test

import (
	"fmt"
	"slices"
	"strings"

	"palisade/api"
	"palisade/types"
)

// The reference below is written from the chapter's words, without the package.

func refNodes(v api.Value) int {
	n := 1
	for _, part := range v.Parts {
		n += refNodes(part)
	}
	return n
}

func refFormed(v api.Value) bool {
	good := refNodes(v) <= 2000
	switch v.Kind {
	case api.Int:
		good = good && len(v.Parts) == 0
	case api.Bool:
		good = good && len(v.Parts) == 0 && 0 <= v.N && v.N <= 1
	case api.Pair:
		good = good && len(v.Parts) == 2 && v.N == 0
	case api.Fun:
		good = good && 0 <= v.N && v.N <= 59
	case api.Ref:
		good = good && len(v.Parts) == 0 && 0 <= v.N && v.N <= 2147483647
	default:
		return false
	}
	for _, part := range v.Parts {
		good = good && refFormed(part)
	}
	return good
}

func refSame(v, w api.Value) bool {
	if v.Kind != w.Kind || v.N != w.N || len(v.Parts) != len(w.Parts) {
		return false
	}
	for i := range v.Parts {
		if !refSame(v.Parts[i], w.Parts[i]) {
			return false
		}
	}
	return true
}

// refBottom is the label that all others are above.
func refBottom(l api.Lattice) int {
	for a, row := range l.Order {
		if !slices.Contains(row, false) {
			return a
		}
	}
	return api.None
}

func refFits(l api.Lattice, funcs []api.Func, cells []api.Cell, t api.Type, v api.Value) bool {
	if !types.Formed(l, t) || !refFormed(v) || t.Kind != v.Kind {
		return false
	}
	switch t.Kind {
	case api.Int, api.Bool:
		return true
	case api.Pair:
		return refFits(l, funcs, cells, t.Parts[0], v.Parts[0]) && refFits(l, funcs, cells, t.Parts[1], v.Parts[1])
	case api.Ref:
		return int(v.N) < len(cells) && types.Same(cells[v.N].Type, t.Parts[0])
	}
	if int(v.N) >= len(funcs) {
		return false
	}
	f := funcs[v.N]
	if !types.Below(l, funType(refBottom(l), f.Param, f.Result, f.Heap, f.Exc), t) || len(f.Caps) != len(v.Parts) {
		return false
	}
	for i := range f.Caps {
		if !refFits(l, funcs, cells, f.Caps[i], v.Parts[i]) {
			return false
		}
	}
	return true
}

func refText(v api.Value) string {
	var parts []string
	for _, part := range v.Parts {
		parts = append(parts, refText(part))
	}
	inner := strings.Join(parts, ", ")
	switch v.Kind {
	case api.Bool:
		return []string{"false", "true"}[v.N]
	case api.Pair:
		return "(" + inner + ")"
	case api.Fun:
		if inner == "" {
			return fmt.Sprintf("fun %d", v.N)
		}
		return fmt.Sprintf("fun %d [%s]", v.N, inner)
	case api.Ref:
		return fmt.Sprintf("ref %d", v.N)
	}
	return fmt.Sprint(v.N)
}
