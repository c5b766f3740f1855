package check_test

import (
	"reflect"
	"strings"
	"testing"

	"palisade/api"
	"palisade/check"
	"palisade/lattice"
	"palisade/syntax"
)

// head is what stands ahead of the Body in most texts: the sets of a, b and c, of which o has none. The bottom isn't the first, nor the top the last, and numbers say nothing of the order.
const head = "lattice { ac, b, abc, o, a, bc, ab, c, " +
	"o < a, o < b, o < c, a < ab, a < ac, b < ab, b < bc, c < ac, c < bc, ab < abc, ac < abc, bc < abc } main(z: int@o): int@o ! none = "

// sets is head's lattice.
func sets() api.Lattice {
	p, _, e := syntax.Parse(head + "1")
	if e != api.OK {
		panic(e)
	}
	return p.Lattice
}

func chain() api.Lattice {
	return made([]string{"low", "high"}, [2]int{0, 1})
}

// fork has a, b and c between d and e; five has b below c, a beside them: of neither a join of three hangs together as of sets.
func fork() api.Lattice {
	return made([]string{"a", "b", "c", "d", "e"}, [2]int{3, 0}, [2]int{3, 1}, [2]int{3, 2}, [2]int{0, 4}, [2]int{1, 4}, [2]int{2, 4})
}

func five() api.Lattice {
	return made([]string{"e", "a", "b", "c", "d"}, [2]int{4, 1}, [2]int{4, 2}, [2]int{2, 3}, [2]int{1, 0}, [2]int{3, 0})
}

func single() api.Lattice {
	return made([]string{"α"})
}

func made(names []string, pairs ...[2]int) api.Lattice {
	l, e := lattice.Make(names, pairs)
	if e != api.OK {
		panic(e)
	}
	return l
}

func lattices() []api.Lattice {
	return []api.Lattice{sets(), chain(), fork(), five(), single()}
}

func integer(label int) api.Type {
	return api.Type{Kind: api.Int, Label: label}
}

func boolean(label int) api.Type {
	return api.Type{Kind: api.Bool, Label: label}
}

func pairOf(label int, s, t api.Type) api.Type {
	return api.Type{Kind: api.Pair, Label: label, Parts: []api.Type{s, t}}
}

func funOf(label int, s, t api.Type, heap, exc int) api.Type {
	return api.Type{Kind: api.Fun, Label: label, Parts: []api.Type{s, t}, Heap: heap, Exc: exc}
}

func refOf(label int, t api.Type) api.Type {
	return api.Type{Kind: api.Ref, Label: label, Parts: []api.Type{t}}
}

func number(n int64) api.Expr {
	return api.Expr{Kind: api.EInt, N: n}
}

func name(text string) api.Expr {
	return api.Expr{Kind: api.EVar, Text: text}
}

// expr is an expression at the place 0.
func expr(kind int, parts ...api.Expr) api.Expr {
	return api.Expr{Kind: kind, Parts: parts}
}

// label is the number of a name of sets, None of none.
func label(t *testing.T, name string) int {
	t.Helper()
	a := lattice.Find(sets(), name)
	if a == api.None && name != "none" {
		t.Fatal("no label:", name)
	}
	return a
}

// typ is a type of sets, from its text.
func typ(t *testing.T, text string) api.Type {
	t.Helper()
	p, at, e := syntax.Parse(head + "raise[" + text + "] 1")
	if e != api.OK {
		t.Fatal("no type:", text, at-len(head), e)
	}
	return p.Body.Type
}

// binds are names with types, from a text: x: int@a; y: bool@b.
func binds(t *testing.T, text string) []check.Bind {
	t.Helper()
	var env []check.Bind
	for _, one := range strings.Split(text, ";") {
		if n, rest, ok := strings.Cut(one, ":"); ok {
			env = append(env, check.Bind{Name: strings.TrimSpace(n), Type: typ(t, rest)})
		}
	}
	return env
}

// body is an expression over sets, from its text, its places those of the text.
func body(t *testing.T, text string) api.Expr {
	t.Helper()
	p, at, e := syntax.Parse(head + text)
	if e != api.OK {
		t.Fatal("no expression:", text, at-len(head), e)
	}
	return moved(p.Body)
}

func moved(e api.Expr) api.Expr {
	e.At -= len(head)
	for i := range e.Parts {
		e.Parts[i] = moved(e.Parts[i])
	}
	return e
}

// place is where an expression stands, in texts: its names, PC and HEAP.
type place struct{ env, pc, heap string }

// bottom is a place with these names at the bottom.
func bottom(env string) place {
	return place{env, "o", "o"}
}

func (p place) judge(t *testing.T, text string) (api.Type, int, int, api.Errno) {
	t.Helper()
	return check.Judge(sets(), binds(t, p.env), label(t, p.pc), label(t, p.heap), body(t, text))
}

// gives holds what is judged against a type and an exc.
func (p place) gives(t *testing.T, text, want, exc string) {
	t.Helper()
	got, x, at, e := p.judge(t, text)
	told, _ := syntax.Type(sets(), got)
	if e != api.OK || at != 0 || x != label(t, exc) || !reflect.DeepEqual(plain(got), plain(typ(t, want))) {
		t.Errorf("%v: %s: %s, %d, %d, error %d; want %s, %s", p, text, told, x, at, e, want, exc)
	}
}

// refuses holds what is judged against an error, whose place is where the mark ^ stands, which is taken out of the text.
func (p place) refuses(t *testing.T, text string, want api.Errno) {
	t.Helper()
	ahead, behind, ok := strings.Cut(text, "^")
	if !ok {
		t.Fatal("no mark in", text)
	}
	got, x, at, e := p.judge(t, ahead+behind)
	if e != want || at != len(ahead) || x != api.None || !reflect.DeepEqual(got, api.Type{}) {
		t.Errorf("%v: %s: %v, %d, %d, error %d; want %d, error %d", p, text, got, x, at, e, len(ahead), want)
	}
}

// plain is t with nil for each list of no elements.
func plain(t api.Type) api.Type {
	var parts []api.Type
	for _, part := range t.Parts {
		parts = append(parts, plain(part))
	}
	t.Parts = parts
	return t
}
