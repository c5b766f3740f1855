package conv_test

import (
	"slices"
	"strconv"
	"strings"
	"testing"

	"palisade/api"
	"palisade/conv"
	"palisade/ir"
	"palisade/lattice"
	"palisade/syntax"
)

const none = api.None

// head is the lattice of most texts: the sets of a, b and c, of which o has none. The bottom isn't the first, nor the top the last, and numbers say nothing of the order.
const head = "lattice { ac, b, abc, o, a, bc, ab, c, " +
	"o < a, o < b, o < c, a < ab, a < ac, b < ab, b < bc, c < ac, c < bc, ab < abc, ac < abc, bc < abc } main("

// sets is head's lattice.
func sets() api.Lattice {
	p, _, e := syntax.Parse(head + "x: int@o): int@o ! none = 1")
	if e != api.OK {
		panic(e)
	}
	return p.Lattice
}

func chain() api.Lattice {
	return made([]string{"low", "high"}, [2]int{0, 1})
}

// fork has a, b and c between d and e; five has b below c, a beside them: of neither a join of three hangs together as of sets.
func fork() api.Lattice {
	return made([]string{"a", "b", "c", "d", "e"}, [2]int{3, 0}, [2]int{3, 1}, [2]int{3, 2}, [2]int{0, 4}, [2]int{1, 4}, [2]int{2, 4})
}

func five() api.Lattice {
	return made([]string{"e", "a", "b", "c", "d"}, [2]int{4, 1}, [2]int{4, 2}, [2]int{2, 3}, [2]int{1, 0}, [2]int{3, 0})
}

func single() api.Lattice {
	return made([]string{"α"})
}

func made(names []string, pairs ...[2]int) api.Lattice {
	l, e := lattice.Make(names, pairs)
	if e != api.OK {
		panic(e)
	}
	return l
}

func lattices() []api.Lattice {
	return []api.Lattice{sets(), chain(), fork(), five(), single()}
}

func integer(label int) api.Type {
	return api.Type{Kind: api.Int, Label: label}
}

func boolean(label int) api.Type {
	return api.Type{Kind: api.Bool, Label: label}
}

func pairOf(label int, s, t api.Type) api.Type {
	return api.Type{Kind: api.Pair, Label: label, Parts: []api.Type{s, t}}
}

func funOf(label int, s, t api.Type, heap, exc int) api.Type {
	return api.Type{Kind: api.Fun, Label: label, Parts: []api.Type{s, t}, Heap: heap, Exc: exc}
}

func refOf(label int, t api.Type) api.Type {
	return api.Type{Kind: api.Ref, Label: label, Parts: []api.Type{t}}
}

func number(n int64) api.Expr {
	return api.Expr{Kind: api.EInt, N: n}
}

func name(text string) api.Expr {
	return api.Expr{Kind: api.EVar, Text: text}
}

// expr is an expression at the place 0.
func expr(kind int, parts ...api.Expr) api.Expr {
	return api.Expr{Kind: kind, Parts: parts}
}

// program is the program of that text, which stands behind head.
func program(t *testing.T, text string) api.Program {
	t.Helper()
	p, at, e := syntax.Parse(head + text)
	if e != api.OK {
		t.Fatalf("no program: %s: %d, error %d", text, at-len(head), e)
	}
	return p
}

// converted is the functions of a program that must have some; they must be right.
func converted(t *testing.T, p api.Program) []ir.Fn {
	t.Helper()
	fns, at, e := conv.Convert(p)
	if e != api.OK || at != 0 || len(fns) == 0 {
		t.Fatalf("%s: %d functions, %d, error %d", printed(p), len(fns), at, e)
	}
	if k, e := ir.Check(p.Lattice, fns); e != api.OK {
		t.Fatalf("%s: function %d: error %d", printed(p), k, e)
	}
	return fns
}

func printed(p api.Program) string {
	text, _ := syntax.Print(p)
	return text
}

// lays holds what a program is converted to against the text of its functions, in which blanks at the lines' ends mean nothing.
func lays(t *testing.T, text, want string) {
	t.Helper()
	p := program(t, text)
	fns := converted(t, p)
	got := ""
	for _, f := range fns {
		got += told(p.Lattice, f)
	}
	var lines []string
	for _, line := range strings.Split(want, "\n") {
		if line = strings.TrimSpace(line); line != "" {
			lines = append(lines, line)
		}
	}
	if want = strings.Join(lines, "\n") + "\n"; got != want {
		t.Errorf("%s:\n%swant\n%s", text, got, want)
	}
}

// told is a function's text: what it takes, gives, and its bounds; what it captures, if anything; its slots; its nodes, those within another one in braces; and OUT.
func told(l api.Lattice, f ir.Fn) string {
	text := "fn " + typeText(l, f.Param) + " -> " + typeText(l, f.Result) + " ! " + labelText(l, f.Heap) + ", " + labelText(l, f.Exc) + "\n"
	if len(f.Caps) > 0 {
		text += "caps " + typeTexts(l, f.Caps) + "\n"
	}
	return text + "slots " + typeTexts(l, f.Slots) + "\n" + nodesText(l, f.Body) + "out " + slotText(f.Out) + "\n"
}

func slotText(n int) string {
	if n == none {
		return "none"
	}
	return strconv.Itoa(n)
}

func labelText(l api.Lattice, a int) string {
	if a == none {
		return "none"
	}
	return l.Names[a]
}

func typeText(l api.Lattice, t api.Type) string {
	text, e := syntax.Type(l, t)
	if e != api.OK {
		return "no type"
	}
	return text
}

func typeTexts(l api.Lattice, all []api.Type) string {
	var texts []string
	for _, t := range all {
		texts = append(texts, typeText(l, t))
	}
	return strings.Join(texts, "; ")
}

func nodesText(l api.Lattice, body []ir.Node) string {
	text := ""
	for _, n := range body {
		text += nodeText(l, n)
	}
	return text
}

// nodeText tells of each field what its Op needs of it, and what stands there though its Op doesn't.
func nodeText(l api.Lattice, n ir.Node) string {
	text := strconv.Itoa(n.Op)
	field := func(name string, n int64, needed bool) {
		if n != 0 || needed {
			text += " " + name + strconv.FormatInt(n, 10)
		}
	}
	field("d", int64(n.Dst), false)
	field("a", int64(n.A), slices.Contains([]int{3, 4, 5, 6, 7, 8, 11, 12, 13, 14, 15, 16, 18}, n.Op))
	field("b", int64(n.B), slices.Contains([]int{4, 6, 11, 14}, n.Op))
	field("n", n.N, slices.Contains([]int{1, 2, 4, 9, 15}, n.Op))
	for _, slot := range n.Args {
		text += " +" + strconv.Itoa(slot)
	}
	if n.T.Kind != 0 {
		text += " [" + typeText(l, n.T) + "]"
	}
	text += " @" + labelText(l, n.Env)
	if len(n.Body)+len(n.Else) > 0 || n.Op == 16 || n.Op == 17 {
		text += " {\n" + nodesText(l, n.Body) + "} else {\n" + nodesText(l, n.Else) + "}"
	}
	return text + "\n"
}

// plain is t with nil for each list of no elements.
func plain(t api.Type) api.Type {
	var parts []api.Type
	for _, part := range t.Parts {
		parts = append(parts, plain(part))
	}
	t.Parts = parts
	return t
}
