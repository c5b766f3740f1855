package ireval_test

import (
	"math/rand"
	"strings"
	"testing"

	"palisade/api"
	"palisade/conv"
	"palisade/eval"
	"palisade/ir"
	"palisade/ireval"
	"palisade/syntax"
	"palisade/value"
)

// compared is a program, what it is converted to, and what both are given.
type compared struct {
	p    api.Program
	fns  []ir.Fn
	arg  api.Value
	heap []api.Cell
}

func (c compared) byText(fuel int) api.Outcome {
	return eval.Run(c.p, c.arg, c.heap, fuel)
}

func (c compared) bySlots(fuel int) api.Outcome {
	return ireval.Run(c.p.Lattice, c.fns, c.arg, c.heap, fuel)
}

// ends tells whether a run has ended by itself, and not Stuck.
func ends(o api.Outcome) bool {
	return o.Kind == api.Returned || o.Kind == api.Raised || o.Kind == api.Exhausted
}

// sameEnd tells whether both have ended with the same, steps apart.
func sameEnd(a, b api.Outcome) bool {
	a.Steps, b.Steps = 0, 0
	return alike(a, b)
}

// holds holds both runs against each other, both ways, the first of them with that fuel, and tells how the first one ends, and in how many steps each.
func (c compared) holds(t *testing.T, fuel int) (int, int, int) {
	t.Helper()
	fail := func(a, b api.Outcome) {
		t.Helper()
		shown, _ := syntax.Print(c.p)
		t.Fatalf("%s\ngiven %s:\n%s\n%s", shown, text(c.arg), told(a), told(b))
	}
	a := c.byText(fuel)
	if !ends(a) {
		// Had the functions' run ended within that, this one would have.
		b := c.bySlots(fuel)
		if ends(b) {
			fail(a, b)
		}
		return a.Kind, a.Steps, b.Steps
	}
	bound := 128*a.Steps + 128
	b := c.bySlots(min(bound, api.MaxSteps))
	if bound > api.MaxSteps && b.Kind == api.OutOfFuel {
		return api.OutOfFuel, a.Steps, b.Steps
	}
	if !sameEnd(a, b) || b.Steps > bound {
		fail(a, b)
	}
	if again := c.byText(b.Steps); !alike(a, again) {
		fail(again, b)
	}
	return a.Kind, a.Steps, b.Steps
}

const head = "lattice { low, high, low < high } main(x: int@high): int@high ! high = "

// written is a program that must be accepted, from its Body's text, given 4.
func written(t *testing.T, text string) compared {
	t.Helper()
	p, at, e := syntax.Parse(head + text)
	if e != api.OK {
		t.Fatal(text, at-len(head), e)
	}
	fns, at, e := conv.Convert(p)
	if e != api.OK {
		t.Fatal(text, at-len(head), e)
	}
	return compared{p: p, fns: fns, arg: integer(4)}
}

// sign is what stands in a text for the types and bounds of a function of an int.
func sign(text string) string {
	return strings.ReplaceAll(text, " =>>", ": int@high): int@high ! high, high =>")
}

// TestWritten (P12.3): programs of each Kind of expression end alike by their text and by their functions; the functions' steps are counted by hand.
func TestWritten(t *testing.T) {
	for text, want := range map[string]string{
		"x + 1":                        "returned 5,,, 3",
		"1 / 0":                        "raised 0,,, 3",
		"1 / (x - 4)":                  "raised 0,,, 5",
		"out[high] x; 2 + 3":           "returned 5, ^4,, 6",
		"let y = x in y":               "returned 4,,, 2",
		"if x < 5 then x else 0":       "returned 4,,, 6",
		"if not (x < 5) then x else 9": "returned 9,,, 7",
		"try raise[int@high] 7 with e => e + x end":                                           "returned 11,,, 7",
		"try 7 with e => e + x end":                                                           "returned 7,,, 3",
		"(raise[int@high] x) + (out[high] 1)":                                                 "raised 4,,, 2",
		"raise[int@high] (raise[int@high] x)":                                                 "raised 4,,, 2",
		"if true then raise[int@high] 1 else raise[int@high] 2":                               "raised 1,,, 4",
		"let r = new[int@high] x in r := ! r * 2; ! r":                                        "returned 8,, ^8, 11",
		"fst (x, true) + snd (1, x)":                                                          "returned 8,,, 9",
		sign("(fun f(n =>> n + x)(3)"):                                                        "returned 7,,, 6",
		sign("(fun f(n =>> if n < 1 then x else f(n - 1))(3)"):                                "returned 4,,, 43",
		sign("(fun f(f =>> f)(3)"):                                                            "returned 3,,, 4",
		sign("let g = fun f(n =>> (out[high] n; 1 / n) in try g(2) with e => g(e) end; g(0)"): "raised 0, ^2 ^0,, 21",
	} {
		c := written(t, text)
		c.holds(t, api.MaxSteps)
		if got := told(c.bySlots(api.MaxSteps)); got != want {
			t.Errorf("%s:\n%s\nwant\n%s", text, got, want)
		}
	}
}

// TestGreatRuns (P12.3): of many steps, of many to one, and such as are exhausted.
func TestGreatRuns(t *testing.T) {
	tries := func(many int) string {
		return strings.Repeat("try ", many) + "n" + strings.Repeat(" with e => e end", many)
	}
	for text, want := range map[string]int{
		sign("(fun f(n =>> if n < 1 then x else f(n - 1))(500)"):                     api.Returned,
		sign("(fun f(n =>> if n < 1 then raise[int@high] x else 1 + f(n - 1))(500)"): api.Raised,
		sign("(fun f(n =>> f(n))(1)"):                                                api.OutOfFuel,
		sign("(fun f(n =>> " + tries(27) + ")(1)"):                                   api.Returned,
		sign("(fun f(n =>> if n < 1 then x else f((" + tries(24) + ") - 1))(50)"):    api.Returned,
		sign("let r = new[[int@high -> int@high ! high, high]@high] (fun i(n =>> n) in " +
			"(fun f(n =>> let h = ! r in let k = ! r in r := (fun g(m =>> h(k(m))); f(n - 1))(1)"): api.Exhausted,
	} {
		c := written(t, text)
		how, n, m := c.holds(t, api.MaxSteps)
		if how != want || m < n {
			t.Errorf("%s: %s, %d and %d steps", text, hows[how], n, m)
		}
	}
}

// TestDrawnPrograms (P12.3): drawn programs that are accepted, given what fits, with cells; by labels that are all low, and by such as are not.
func TestDrawnPrograms(t *testing.T) {
	draw := rand.New(rand.NewSource(128))
	seen, kinds, highs, ratio := map[int]int{}, map[int]int{}, 0, 0
	for n := range 18000 {
		m := &maker{draw, never}
		if n%3 == 0 {
			m.high = 4 + draw.Intn(16)
		}
		p := m.program(2 + n%7)
		fns, _, e := conv.Convert(p)
		if e != api.OK {
			continue
		}
		c := compared{p: p, fns: fns}
		// What fits may be a Fun, but of no number 0: that is none of the program's functions.
		d := &drawer{Rand: draw, odd: never, fns: fns, from: 1}
		c.arg = d.give(p.Param, &c.heap)
		if !value.Fits(p.Lattice, funcs(fns), c.heap, p.Param, c.arg) || !value.Heap(p.Lattice, funcs(fns), c.heap) {
			continue
		}
		how, steps, slots := c.holds(t, 500)
		if seen[how]++; how == api.Stuck {
			t.Fatalf("stuck: %s", printed(p))
		}
		countKinds(p.Body, kinds)
		if strings.Contains(printed(p), "high") && m.high != never {
			highs++
		}
		if how != api.OutOfFuel {
			ratio = max(ratio, slots-2*steps)
		}
	}
	if seen[api.Returned] < 6000 || seen[api.Raised] < 2000 || seen[api.OutOfFuel] < 10 || highs < 2000 || ratio < 5 {
		t.Error(seen, highs, ratio)
	}
	for kind := api.EInt; kind <= api.ENot; kind++ {
		if kinds[kind] < 1000 {
			t.Errorf("Kind %d was met %d times", kind, kinds[kind])
		}
	}
}

// TestUnfitting (P12.3): what accepted programs are given may be of other types than they take; then, too, both end alike, where one ends so.
func TestUnfitting(t *testing.T) {
	draw := rand.New(rand.NewSource(1283))
	seen := map[int]int{}
	for n := range 8000 {
		m := &maker{draw, never}
		p := m.program(2 + n%5)
		fns, _, e := conv.Convert(p)
		if e != api.OK {
			continue
		}
		c := compared{p: p, fns: fns}
		d := &drawer{Rand: draw, odd: 3, fns: fns, from: 1}
		c.arg = d.give(p.Param, &c.heap)
		for range draw.Intn(3) {
			v := d.give(d.typ(2), &c.heap)
			c.heap = append(c.heap, api.Cell{Type: d.typ(2), Value: v})
		}
		if c.hasMain(c.arg) {
			continue
		}
		how, _, _ := c.holds(t, 500)
		seen[how]++
	}
	if seen[api.Returned] < 2000 || seen[api.Raised] < 400 || seen[api.Stuck] < 100 {
		t.Error(seen)
	}
}

// hasMain tells whether a Fun of number 0 is in v, or in a cell: that is none of the program's functions.
func (c compared) hasMain(v api.Value) bool {
	main := func(v api.Value) bool { return v.Kind == api.Fun && v.N == 0 }
	if within(v, main) {
		return true
	}
	for _, cell := range c.heap {
		if within(cell.Value, main) {
			return true
		}
	}
	return false
}

func within(v api.Value, such func(v api.Value) bool) bool {
	if such(v) {
		return true
	}
	for _, part := range v.Parts {
		if within(part, such) {
			return true
		}
	}
	return false
}

// printed is the text of a program's types and Body.
func printed(p api.Program) string {
	text, _ := syntax.Print(p)
	_, body, _ := strings.Cut(text, "main")
	return body
}

func countKinds(e api.Expr, kinds map[int]int) {
	kinds[e.Kind]++
	for _, part := range e.Parts {
		countKinds(part, kinds)
	}
}
