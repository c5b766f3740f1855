package conv_test

import (
	"testing"

	"palisade/conv"
	"palisade/free"
	"palisade/lattice"
	"palisade/types"
)

// TestCaps (P11.2): of each function, the Body's ahead, what it captures.
func TestCaps(t *testing.T) {
	for text, want := range map[string][]string{
		"x: int@a): int@abc ! none = x + 1":                                                                              {""},
		"x: int@a): int@abc ! none = (fun f(n: int@o): int@abc ! o, none => n)(1)":                                       {"", ""},
		"x: int@a): int@abc ! none = (fun f(n: int@o): int@abc ! o, none => x)(1)":                                       {"", "int@a"},
		"x: int@a): int@abc ! abc = 1 / x; (fun f(n: int@abc): int@abc ! abc, none => n + x)(1)":                         {"", "int@a"},
		"x: int@a): int@abc ! abc = let y = 2 in 1 / x; (fun f(n: int@abc): int@abc ! abc, none => y)(1)":                {"", "int@a"},
		"x: int@a): int@abc ! abc = let y = 2 in let z = true in (fun f(n: int@o): int@abc ! o, none => (z; x; y))(1)":   {"", "int@a; int@o; bool@o"},
		"x: int@a): int@abc ! abc = let y = 2 in (raise[int@o] x); (fun f(n: int@abc): int@abc ! abc, none => y + x)(1)": {"", "int@a; int@a"},
	} {
		p := program(t, text)
		caps := conv.Caps(p)
		if len(caps) != len(want) {
			t.Fatalf("%s: %d Caps", text, len(caps))
		}
		for k, one := range caps {
			if got := typeTexts(p.Lattice, one); got != want[k] {
				t.Errorf("%s: function %d: %s; want %s", text, k, got, want[k])
			}
		}
	}
}

// TestRightAndTyped (P11.3): what is converted is right, and its function 0 is of the program's types and bounds. (P11.1): there is a function for each of layer 8's, of its types, bounds and Caps.
func TestRightAndTyped(t *testing.T) {
	functions := 0
	for p := range acceptedPrograms(113, 3000) {
		fns := converted(t, p)
		main := fns[0]
		if !types.Same(main.Param, p.Param) || !types.Same(main.Result, p.Result) || main.Exc != p.Exc || main.Heap != lattice.Bottom(p.Lattice) || len(main.Caps) != 0 {
			t.Fatalf("%s: %s", printed(p), told(p.Lattice, main))
		}
		table := free.Table(p.Arg, p.Body)
		if len(fns) != 1+len(table) {
			t.Fatalf("%s: %d functions", printed(p), len(fns))
		}
		for i, entry := range table {
			f, e := fns[1+i], entry.Fun
			if !types.Same(f.Param, e.Type) || !types.Same(f.Result, e.Give) || f.Heap != int(e.N) || f.Exc != int(e.M) || len(f.Caps) != len(entry.Caps) {
				t.Fatalf("%s: %s", printed(p), told(p.Lattice, f))
			}
			functions++
		}
	}
	if functions < 1000 {
		t.Error("too few functions:", functions)
	}
}
