package syntax_test

import (
	"math/rand"
	"slices"
	"strconv"
	"testing"

	"palisade/api"
	"palisade/lattice"
	"palisade/syntax"
)

// The grammar's levels, from that which takes most to that which takes least.
const (
	seqLevel = iota
	exprLevel
	compareLevel
	sumLevel
	productLevel
	unaryLevel
	callLevel
	atomLevel
)

// level is that of the rule which an expression is written by.
func level(e api.Expr) int {
	switch e.Kind {
	case api.ESeq:
		return seqLevel
	case api.ELet, api.EIf, api.EFun, api.ESet:
		return exprLevel
	case api.EBin:
		switch e.N {
		case api.OpLess, api.OpSame:
			return compareLevel
		case api.OpAdd, api.OpSub:
			return sumLevel
		}
		return productLevel
	case api.EFirst, api.ESecond, api.ENew, api.EGet, api.EOut, api.ERaise, api.ENot:
		return unaryLevel
	case api.ECall:
		return callLevel
	}
	return atomLevel
}

// speaker writes a program in the grammar's words, with blanks, remarks and more brackets than there must be as they are drawn, and notes where each expression stands.
type speaker struct {
	draw *rand.Rand
	l    api.Lattice
	text string
}

// say writes words, each behind what may stand between two.
func (s *speaker) say(words ...string) {
	for _, w := range words {
		s.text += []string{" ", "\n", "\t ", " # let\n", "  "}[s.draw.Intn(5)]
		s.text += w
	}
}

// place is where the next word is written, which is then what is left to write of it.
func (s *speaker) place(word string) int {
	s.say(word)
	return len(s.text) - len(word)
}

func (s *speaker) label(a int) string {
	if a == api.None {
		return "none"
	}
	return s.l.Names[a]
}

func (s *speaker) sayType(t api.Type) {
	switch t.Kind {
	case api.Int:
		s.say("int")
	case api.Bool:
		s.say("bool")
	case api.Pair:
		s.say("(")
		s.sayType(t.Parts[0])
		s.say(",")
		s.sayType(t.Parts[1])
		s.say(")")
	case api.Fun:
		s.say("[")
		s.sayType(t.Parts[0])
		s.say("->")
		s.sayType(t.Parts[1])
		s.say("!", s.label(t.Heap), ",", s.label(t.Exc), "]")
	case api.Ref:
		s.say("ref", "(")
		s.sayType(t.Parts[0])
		s.say(")")
	}
	s.say("@", s.label(t.Label))
}

func (s *speaker) sayProgram(p api.Program) api.Program {
	s.say("lattice", "{")
	for a, n := range p.Lattice.Names {
		if a > 0 {
			s.say(",")
		}
		s.say(n)
	}
	for a := range p.Lattice.Names {
		for b := range p.Lattice.Names {
			if lattice.Leq(p.Lattice, a, b) {
				s.say(",", s.label(a), "<", s.label(b))
			}
		}
	}
	s.say("}", "main", "(", p.Arg, ":")
	s.sayType(p.Param)
	s.say(")", ":")
	s.sayType(p.Result)
	s.say("!", s.label(p.Exc), "=")
	p.Body = s.sayAt(seqLevel, p.Body)
	s.say("")
	return p
}

// sayAt writes e where the grammar wants that level, and answers it with its places.
func (s *speaker) sayAt(want int, e api.Expr) api.Expr {
	if level(e) < want || s.draw.Intn(8) == 0 {
		s.say("(")
		e = s.sayAt(seqLevel, e)
		s.say(")")
		return e
	}
	return s.sayBare(e)
}

// swallows tells whether a ; behind e, written without brackets of its own, would be taken into it.
func swallows(e api.Expr) bool {
	switch e.Kind {
	case api.ELet:
		return true
	case api.EIf, api.EFun, api.ESet:
		return swallows(e.Parts[len(e.Parts)-1])
	}
	return false
}

func (s *speaker) sayBare(e api.Expr) api.Expr {
	e.Parts = slices.Clone(e.Parts)
	switch level(e) {
	case seqLevel:
		want := exprLevel
		if swallows(e.Parts[0]) {
			want = atomLevel
		}
		s.sayTwo(&e, want, ";", seqLevel)
	case exprLevel:
		s.sayExpr(&e)
	case compareLevel:
		s.sayTwo(&e, sumLevel, map[int64]string{api.OpLess: "<", api.OpSame: "=="}[e.N], sumLevel)
	case sumLevel:
		s.sayTwo(&e, sumLevel, map[int64]string{api.OpAdd: "+", api.OpSub: "-"}[e.N], productLevel)
	case productLevel:
		s.sayTwo(&e, productLevel, map[int64]string{api.OpMul: "*", api.OpDiv: "/", api.OpMod: "%"}[e.N], unaryLevel)
	case unaryLevel:
		s.sayUnary(&e)
	case callLevel:
		s.sayTwo(&e, callLevel, "(", seqLevel)
		s.say(")")
	case atomLevel:
		s.sayAtom(&e)
	}
	return e
}

// sayTwo writes what joins two, which stands where the first one does.
func (s *speaker) sayTwo(e *api.Expr, first int, word string, second int) {
	e.Parts[0] = s.sayAt(first, e.Parts[0])
	s.say(word)
	e.Parts[1] = s.sayAt(second, e.Parts[1])
	e.At = e.Parts[0].At
}

func (s *speaker) sayExpr(e *api.Expr) {
	switch e.Kind {
	case api.ELet:
		e.At = s.place("let")
		s.say(e.Text, "=")
		e.Parts[0] = s.sayAt(exprLevel, e.Parts[0])
		s.say("in")
		e.Parts[1] = s.sayAt(seqLevel, e.Parts[1])
	case api.EIf:
		e.At = s.place("if")
		e.Parts[0] = s.sayAt(exprLevel, e.Parts[0])
		s.say("then")
		e.Parts[1] = s.sayAt(exprLevel, e.Parts[1])
		s.say("else")
		e.Parts[2] = s.sayAt(exprLevel, e.Parts[2])
	case api.EFun:
		e.At = s.place("fun")
		s.say(e.Text, "(", e.Arg, ":")
		s.sayType(e.Type)
		s.say(")", ":")
		s.sayType(e.Give)
		s.say("!", s.label(int(e.N)), ",", s.label(int(e.M)), "=>")
		e.Parts[0] = s.sayAt(exprLevel, e.Parts[0])
	case api.ESet:
		s.sayTwo(e, compareLevel, ":=", exprLevel)
	}
}

func (s *speaker) sayUnary(e *api.Expr) {
	e.At = s.place(map[int]string{api.ENot: "not", api.EGet: "!", api.EFirst: "fst", api.ESecond: "snd", api.EOut: "out", api.ENew: "new", api.ERaise: "raise"}[e.Kind])
	switch e.Kind {
	case api.EOut:
		s.say("[", s.label(int(e.N)), "]")
	case api.ENew, api.ERaise:
		s.say("[")
		s.sayType(e.Type)
		s.say("]")
	}
	e.Parts[0] = s.sayAt(unaryLevel, e.Parts[0])
}

func (s *speaker) sayAtom(e *api.Expr) {
	switch e.Kind {
	case api.EInt:
		e.At = s.place(strconv.FormatInt(e.N, 10))
	case api.EBool:
		e.At = s.place([]string{"false", "true"}[e.N])
	case api.EVar:
		e.At = s.place(e.Text)
	case api.EPair:
		e.At = s.place("(")
		e.Parts[0] = s.sayAt(seqLevel, e.Parts[0])
		s.say(",")
		e.Parts[1] = s.sayAt(seqLevel, e.Parts[1])
		s.say(")")
	case api.ETry:
		e.At = s.place("try")
		e.Parts[0] = s.sayAt(seqLevel, e.Parts[0])
		s.say("with", e.Text, "=>")
		e.Parts[1] = s.sayAt(seqLevel, e.Parts[1])
		s.say("end")
	}
}

// drawnType is a formed type, so deep at most.
func drawnType(draw *rand.Rand, l api.Lattice, deep int) api.Type {
	label := func() int { return draw.Intn(len(l.Names)) }
	exc := func() int { return draw.Intn(len(l.Names)+1) - 1 }
	kind := 1 + draw.Intn(5)
	if deep == 1 {
		kind = 1 + draw.Intn(2)
	}
	switch kind {
	case api.Pair:
		return pairOf(label(), drawnType(draw, l, deep-1), drawnType(draw, l, deep-1))
	case api.Fun:
		return funOf(label(), drawnType(draw, l, deep-1), drawnType(draw, l, deep-1), label(), exc())
	case api.Ref:
		return refOf(label(), drawnType(draw, l, deep-1))
	}
	return api.Type{Kind: kind, Label: label()}
}

func drawnName(draw *rand.Rand) string {
	return []string{"x", "y", "lets", "α1", "abcdefghijklmnop", "low", "X"}[draw.Intn(7)]
}

// drawnExpr is one that is formed and nests so deep at most.
func drawnExpr(draw *rand.Rand, l api.Lattice, deep int) api.Expr {
	kind := 1 + draw.Intn(19)
	if deep == 1 {
		kind = 1 + draw.Intn(3)
	}
	part := func() api.Expr { return drawnExpr(draw, l, deep-1) }
	some := each(api.Expr{}, api.Expr{}, api.Expr{})[kind-1]
	for i := range some.Parts {
		some.Parts[i] = part()
	}
	if some.Text != "" {
		some.Text = drawnName(draw)
	}
	if some.Type.Kind != 0 {
		some.Type = drawnType(draw, l, 3)
	}
	switch kind {
	case api.EInt:
		some.N = draw.Int63() >> draw.Intn(63)
	case api.EBool:
		some.N = int64(draw.Intn(2))
	case api.EFun:
		some.Arg, some.Give = drawnName(draw), drawnType(draw, l, 3)
		some.N, some.M = int64(draw.Intn(len(l.Names))), int64(draw.Intn(len(l.Names)+1)-1)
	case api.EOut:
		some.N = int64(draw.Intn(len(l.Names)))
	case api.EBin:
		some.N = int64(api.OpAdd + draw.Intn(7))
	}
	return some
}

func drawnProgram(draw *rand.Rand, deep int) api.Program {
	l := lattices()[draw.Intn(4)]
	return api.Program{
		Lattice: l, Arg: drawnName(draw), Param: drawnType(draw, l, 4), Result: drawnType(draw, l, 4), Exc: draw.Intn(len(l.Names)+1) - 1,
		Body: drawnExpr(draw, l, deep),
	}
}

// TestSpoken (P6.1): drawn programs, written in the grammar's words, are read as they were, with all places.
func TestSpoken(t *testing.T) {
	draw := rand.New(rand.NewSource(66))
	long, read := 0, 0
	for n := range 4000 {
		p := drawnProgram(draw, 1+n%6)
		s := &speaker{draw: draw, l: p.Lattice}
		want := s.sayProgram(p)
		if len(s.text) > api.MaxSource {
			long++
			refuses(t, s.text, 0, api.ErrLong)
			continue
		}
		read++
		wants(t, s.text, want)
		if got, _, _ := syntax.Parse(s.text); !syntax.Same(got.Body, p.Body) || !syntax.Formed(got) || !syntax.Formed(p) {
			t.Fatal(s.text)
		}
		if t.Failed() {
			return
		}
	}
	if read < 3000 {
		t.Error(read, long)
	}
}
