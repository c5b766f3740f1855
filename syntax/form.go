package syntax

import (
	"palisade/api"
	"palisade/lattice"
	"palisade/lex"
	"palisade/types"
	"palisade/walk"
)

// Formed tells whether p is a program.
func Formed(p api.Program) bool {
	if !lattice.Formed(p.Lattice) || !isName(p.Arg) || !types.Formed(p.Lattice, p.Param) || !types.Formed(p.Lattice, p.Result) {
		return false
	}
	return isExc(p.Lattice, int64(p.Exc)) && small(p.Body) && walk.Everywhere(p.Body, p.Body, partsOf, func(e, _ api.Expr) bool {
		return nodeFormed(p.Lattice, e)
	})
}

// nodeFormed leaves what stands in the Parts to be asked of them.
func nodeFormed(l api.Lattice, e api.Expr) bool {
	isFun := e.Kind == api.EFun
	return len(e.Parts) == arity(e.Kind) && numberFormed(l, e) && nameFormed(e.Text, hasName(e.Kind)) && typeFormed(l, e.Type, hasType(e.Kind)) &&
		nameFormed(e.Arg, isFun) && typeFormed(l, e.Give, isFun) && (e.M == 0 || isFun && isExc(l, e.M))
}

// arity is how many Parts an expression of that Kind has. None has as many as that of a Kind that is none.
func arity(kind int) int {
	switch kind {
	case api.EInt, api.EBool, api.EVar:
		return 0
	case api.EFun, api.EFirst, api.ESecond, api.ENew, api.EGet, api.EOut, api.ERaise, api.ENot:
		return 1
	case api.ELet, api.ECall, api.EPair, api.ESet, api.ETry, api.ESeq, api.EBin:
		return 2
	case api.EIf:
		return 3
	}
	return -1
}

func numberFormed(l api.Lattice, e api.Expr) bool {
	switch e.Kind {
	case api.EInt:
		return e.N >= 0
	case api.EBool:
		return e.N == 0 || e.N == 1
	case api.EFun, api.EOut:
		return isLabel(l, e.N)
	case api.EBin:
		return e.N >= api.OpAdd && e.N <= api.OpSame
	}
	return e.N == 0
}

func hasName(kind int) bool {
	return kind == api.EVar || kind == api.ELet || kind == api.EFun || kind == api.ETry
}

func hasType(kind int) bool {
	return kind == api.EFun || kind == api.ENew || kind == api.ERaise
}

// nameFormed is asked of a field that is a name, if needed, else zero.
func nameFormed(name string, needed bool) bool {
	if needed {
		return isName(name)
	}
	return name == ""
}

// typeFormed is asked of a field that is a type, if needed, else zero.
func typeFormed(l api.Lattice, t api.Type, needed bool) bool {
	if needed {
		return types.Formed(l, t)
	}
	return types.Same(t, api.Type{})
}

func isName(s string) bool {
	return lattice.Name(s) && !lex.Keyword(s)
}

// isLabel is asked of a formed lattice.
func isLabel(l api.Lattice, n int64) bool {
	return n >= 0 && n < int64(len(l.Names))
}

func isExc(l api.Lattice, n int64) bool {
	return n == api.None || isLabel(l, n)
}
