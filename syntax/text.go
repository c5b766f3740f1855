package syntax

import (
	"slices"
	"strconv"
	"strings"

	"palisade/api"
	"palisade/types"
)

// Print is p's text; ErrForm, if it isn't formed.
func Print(p api.Program) (string, api.Errno) {
	if !Formed(p) {
		return "", api.ErrForm
	}
	var b strings.Builder
	b.WriteString(blockText(p.Lattice) + "\nmain" + headText(p.Lattice, p.Arg, p.Param, p.Result) + excText(p.Lattice, p.Exc) + " =\n")
	write(&b, p.Lattice, p.Body)
	b.WriteString("\n")
	return b.String(), api.OK
}

// Type is t's text; ErrForm, if it isn't formed.
func Type(l api.Lattice, t api.Type) (string, api.Errno) {
	if !types.Formed(l, t) {
		return "", api.ErrForm
	}
	return typeText(l, t), api.OK
}

// blockText is all names, which so keep their numbers, and no more of the order than what follows from nothing else of it.
func blockText(l api.Lattice) string {
	items := slices.Clone(l.Names)
	for a, first := range l.Names {
		for b, second := range l.Names {
			if next(l, a, b) {
				items = append(items, first+" < "+second)
			}
		}
	}
	return "lattice { " + strings.Join(items, ", ") + " }"
}

// next tells whether a is below b, unlike it, and no third one lies between.
func next(l api.Lattice, a, b int) bool {
	if a == b || !l.Order[a][b] {
		return false
	}
	for c := range l.Names {
		if c != a && c != b && l.Order[a][c] && l.Order[c][b] {
			return false
		}
	}
	return true
}

func headText(l api.Lattice, arg string, param, result api.Type) string {
	return "(" + arg + ": " + typeText(l, param) + "): " + typeText(l, result) + " ! "
}

func excText(l api.Lattice, exc int) string {
	if exc == api.None {
		return "none"
	}
	return l.Names[exc]
}

func boundsText(l api.Lattice, heap, exc int) string {
	return l.Names[heap] + ", " + excText(l, exc)
}

// typeText is asked of a formed type.
func typeText(l api.Lattice, t api.Type) string {
	var parts []string
	for _, part := range t.Parts {
		parts = append(parts, typeText(l, part))
	}
	return shapeText(l, t, parts...) + "@" + l.Names[t.Label]
}

// shapeText is a type's text without its label, its Parts having these.
func shapeText(l api.Lattice, t api.Type, parts ...string) string {
	inner := strings.Join(parts, ", ")
	switch t.Kind {
	case api.Int:
		return "int"
	case api.Bool:
		return "bool"
	case api.Fun:
		return "[" + strings.Join(parts, " -> ") + " ! " + boundsText(l, t.Heap, t.Exc) + "]"
	case api.Ref:
		return "ref(" + inner + ")"
	}
	return "(" + inner + ")"
}

// write is asked of an expression of a formed program.
func write(b *strings.Builder, l api.Lattice, e api.Expr) {
	texts := textsOf(l, e)
	for i, part := range e.Parts {
		b.WriteString(texts[i])
		if bare(e.Kind, i, part.Kind) {
			write(b, l, part)
			continue
		}
		b.WriteString("(")
		write(b, l, part)
		b.WriteString(")")
	}
	b.WriteString(texts[len(e.Parts)])
}

// bare tells whether the Part of that number and Kind, of an expression of a Kind, has no brackets of its own.
func bare(kind, number, part int) bool {
	switch part {
	case api.EInt, api.EBool, api.EVar, api.EPair:
		return true
	}
	return kind == api.EPair || kind == api.ECall && number == 1
}

// textsOf are the texts that stand ahead of each of e's Parts, and behind the last one.
func textsOf(l api.Lattice, e api.Expr) []string {
	switch e.Kind {
	case api.EInt:
		return []string{strconv.FormatInt(e.N, 10)}
	case api.EBool:
		return []string{strconv.FormatBool(e.N == 1)}
	case api.EVar:
		return []string{e.Text}
	case api.ELet:
		return []string{"let " + e.Text + " = ", " in ", ""}
	case api.EIf:
		return []string{"if ", " then ", " else ", ""}
	case api.EFun:
		return []string{"fun " + e.Text + headText(l, e.Arg, e.Type, e.Give) + boundsText(l, int(e.N), int(e.M)) + " => ", ""}
	case api.ECall:
		return []string{"", "(", ")"}
	case api.EPair:
		return []string{"(", ", ", ")"}
	case api.EFirst:
		return []string{"fst ", ""}
	case api.ESecond:
		return []string{"snd ", ""}
	case api.ENew:
		return []string{"new[" + typeText(l, e.Type) + "] ", ""}
	case api.EGet:
		return []string{"! ", ""}
	case api.ESet:
		return []string{"", " := ", ""}
	case api.EOut:
		return []string{"out[" + l.Names[e.N] + "] ", ""}
	case api.ERaise:
		return []string{"raise[" + typeText(l, e.Type) + "] ", ""}
	case api.ETry:
		return []string{"try ", " with " + e.Text + " => ", " end"}
	case api.ESeq:
		return []string{"", " ; ", ""}
	case api.EBin:
		return []string{"", " " + signs[e.N-api.OpAdd] + " ", ""}
	}
	return []string{"not ", ""}
}
