package syntax_test

import (
	"strings"
	"testing"

	"palisade/api"
	"palisade/syntax"
)

// deepType is the text of a type so deep, of Refs alone and an Int.
func deepType(deep int) string {
	return strings.Repeat("ref(", deep-1) + "int@low" + strings.Repeat(")@low", deep-1)
}

// typePlaces are texts in which a type stands where T does.
func typePlaces() []string {
	return []string{
		"lattice { low < high } main(x: T", "lattice { low < high } main(x: int@low): T",
		head + "new[T", head + "raise[T", head + "fun f(y: T", head + "fun f(y: int@low): T", head + "1 + (2, try new[T",
	}
}

// TestTypeLimits (P6.1): a type of MaxDeep and of MaxNodes is read; of one more it is refused at its first word, when its last one is read.
func TestTypeLimits(t *testing.T) {
	for _, place := range typePlaces() {
		for _, fits := range []string{deepType(api.MaxDeep), sized(40, "(A, B)@low")} {
			s := strings.ReplaceAll(place, "T", fits)
			refuses(t, s, len(s), api.ErrSyntax)
		}
		for _, great := range []string{deepType(api.MaxDeep + 1), sized(41, "(A, B)@low"), sized(45, "(A, B)@low")} {
			for _, behind := range []string{"", ")", "] 1", "@low", " }", ") : int@mid"} {
				refusesAt(t, strings.ReplaceAll(place, "T", "^"+great)+behind, api.ErrLimit)
				refusesAt(t, strings.ReplaceAll(place, "T", "# a type\n\t^"+great)+behind, api.ErrLimit)
			}
			short := strings.TrimSuffix(great, "low")
			refusesAt(t, strings.ReplaceAll(place, "T", short+"^mid"), api.ErrSyntax)
			refusesAt(t, strings.ReplaceAll(place, "T", short+"^"), api.ErrSyntax)
			refusesAt(t, strings.ReplaceAll(place, "T", strings.TrimSuffix(short, "@"))+" ^)@low", api.ErrSyntax)
		}
	}
}

// TestFortyNodes (P6.1): 40 nodes are read, 41 aren't, whatever they are nodes of.
func TestFortyNodes(t *testing.T) {
	for _, join := range []string{"(A, B)@low", "[A -> B ! low, none]@low", "[B -> A ! high, low]@high"} {
		for nodes, fits := range map[int]bool{1: true, 2: true, 39: true, 40: true, 41: false, 42: false, 50: false} {
			s := sized(nodes, join)
			_, place, e := syntax.Parse(head + "new[" + s + "] 1")
			if strings.Count(s, "@") != nodes || fits && (e != api.OK || place != 0) || !fits && (e != api.ErrLimit || place != len(head)+4) {
				t.Errorf("%d nodes of %s: %d, %v", nodes, join, place, e)
			}
		}
	}
}

// sized is the text of a type of so many nodes, no deeper than it must be; in join A and B stand for two Parts.
func sized(nodes int, join string) string {
	switch nodes {
	case 1:
		return "bool@high"
	case 2:
		return "ref(int@low)@high"
	}
	half := (nodes - 1) / 2
	return strings.NewReplacer("A", sized(half, join), "B", sized(nodes-1-half, join)).Replace(join)
}

// TestInnerTypeLimits (P6.1): of types that stand in each other the one whose last word comes first is told.
func TestInnerTypeLimits(t *testing.T) {
	for _, place := range typePlaces() {
		for deep := api.MaxDeep + 1; deep < 200; deep += 7 {
			text := strings.Repeat("ref(", deep-api.MaxDeep-1) + "^" + deepType(api.MaxDeep+1)
			refusesAt(t, strings.ReplaceAll(place, "T", text), api.ErrLimit)
			refusesAt(t, strings.ReplaceAll(place, "T", text+strings.Repeat(")@low", deep-api.MaxDeep-1)), api.ErrLimit)
			refusesAt(t, strings.ReplaceAll(place, "T", text+strings.Repeat(")@mid", deep-api.MaxDeep-1)), api.ErrLimit)
		}
		refusesAt(t, strings.ReplaceAll(place, "T", "(int@low, ^"+deepType(7)+")@low"), api.ErrLimit)
		refusesAt(t, strings.ReplaceAll(place, "T", "(^"+deepType(7)+", "+deepType(8)+")@low"), api.ErrLimit)
		refusesAt(t, strings.ReplaceAll(place, "T", "^("+deepType(6)+", int@low)@low"), api.ErrLimit)
		refusesAt(t, strings.ReplaceAll(place, "T", "(^("+deepType(6)+", int@low)@low, int@mid)@low"), api.ErrLimit)
		refusesAt(t, strings.ReplaceAll(place, "T", "[int@^mid -> "+deepType(7)+" ! low, low]@low"), api.ErrSyntax)
	}
}

// deepBodies are texts of Bodies that nest so deep, each in another way, with a mark at the Body's At.
func deepBodies(deep int) []string {
	n := deep - 1
	return []string{
		"^" + strings.Repeat("not ", n) + "x",
		"^" + strings.Repeat("! ", n) + "x",
		"^" + strings.Repeat("fst ", n) + "x",
		"^" + strings.Repeat("out[low] ", n) + "x",
		"^" + strings.Repeat("new[int@low] ", n) + "x",
		"^" + strings.Repeat("let y = 1 in ", n) + "x",
		"^" + strings.Repeat("let y = ", n) + "x" + strings.Repeat(" in 1", n),
		"^" + strings.Repeat("if true then ", n) + "x" + strings.Repeat(" else 1", n),
		"^" + strings.Repeat("fun f(x: int@low): int@low ! low, none => ", n) + "x",
		"^" + strings.Repeat("1; ", n) + "x",
		"^" + strings.Repeat("1 := ", n) + "x",
		"^" + strings.Repeat("f(", n) + "x" + strings.Repeat(")", n),
		"^x" + strings.Repeat("(1)", n),
		"^" + strings.Repeat("(1,", n) + "x" + strings.Repeat(")", n),
		"^1" + strings.Repeat("+1", n),
		"^1" + strings.Repeat("*x", n),
		strings.Repeat("(", n) + "^1" + strings.Repeat("<1)", n),
		"((^1)) +" + strings.Repeat("(1 -", n-1) + "1" + strings.Repeat(")", n-1),
		"^" + strings.Repeat("try ", n) + "x" + strings.Repeat(" with e => 1 end", n),
		"^" + strings.Repeat("try 1 with e => ", n) + "x" + strings.Repeat(" end", n),
	}
}

// TestBodyNests (P6.1): MaxNest deep is read; one deeper, and much deeper, is refused at Body's At, when all is read.
func TestBodyNests(t *testing.T) {
	for i := range deepBodies(api.MaxNest) {
		fits := strings.Replace(deepBodies(api.MaxNest)[i], "^", "", 1)
		p, _, e := syntax.Parse(head + fits)
		if e != api.OK || syntax.Nest(p.Body) != api.MaxNest || !syntax.Formed(p) {
			t.Errorf("%s: %v, %d deep", fits, e, syntax.Nest(p.Body))
		}
		refusesAt(t, head+fits+" ^2", api.ErrSyntax)
		for _, deep := range []int{api.MaxNest + 1, api.MaxNest + 2, 60} {
			s := deepBodies(deep)[i]
			refusesAt(t, head+s, api.ErrLimit)
			refusesAt(t, head+"# all of it\n ("+s+") # and behind", api.ErrLimit)
			refusesAt(t, head+strings.Replace(s, "^", "", 1)+" ^2", api.ErrSyntax)
			refusesAt(t, head+strings.Replace(s, "^", "", 1)+"; new[^"+deepType(7)+"] 1", api.ErrLimit)
		}
	}
}

// TestBracketsDoNotNest (P6.1): brackets alone are nothing of the expression, as many as there may be.
func TestBracketsDoNotNest(t *testing.T) {
	n := (api.MaxTokens - len(textsIn(t, head)) - 1) / 2
	want := program(at(len(head)+n, name("x")))
	wants(t, head+strings.Repeat("(", n)+"x"+strings.Repeat(")", n), want)
	refuses(t, head+strings.Repeat("(", n)+"x"+strings.Repeat(")", n-1), len(head)+2*n, api.ErrSyntax)
	refuses(t, head+strings.Repeat("(", n)+strings.Repeat(")", n), len(head)+n, api.ErrSyntax)
}

// TestManyNodes (P6.1): a Body of as many nodes as the words allow is read.
func TestManyNodes(t *testing.T) {
	var balanced func(words int) string
	balanced = func(words int) string {
		if words < 5 {
			return "1"
		}
		half := (words - 5) / 2
		return "(" + balanced(half) + ")+(" + balanced(words-5-half) + ")"
	}
	s := head + balanced(api.MaxTokens-len(textsIn(t, head)))
	p, _, e := syntax.Parse(s)
	if e != api.OK || !syntax.Formed(p) || len(textsIn(t, s)) < api.MaxTokens-500 {
		t.Error(e, len(textsIn(t, s)))
	}
}
