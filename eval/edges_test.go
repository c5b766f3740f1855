package eval_test

import (
	"math"
	"strconv"
	"strings"
	"testing"

	"palisade/api"
	"palisade/eval"
)

// TestFuel (P9.1): just enough, one less, none; too much, and less than none.
func TestFuel(t *testing.T) {
	for text, line := range map[string]string{
		"1": "returned 1, 1", "x": "returned 4, 1", "y": "stuck, 1", "fun f(n) x": "returned f1[4], 1", "true": "returned true, 1",
		"let y = x in y":               "returned 4, 2",
		"1; 2":                         "returned 2, 2",
		"try raise 7 with e => e end":  "returned 7, 3",
		"try 1 with e => e end":        "returned 1, 1",
		"1 / 0":                        "raised 0, 3",
		"fst x":                        "stuck, 2",
		"1(2)":                         "stuck, 3",
		"(fun f(n) f(n - 1))(true)":    "stuck, 7",
		"if 1 then 2 else 3":           "stuck, 2",
		"let y = new x in y := 2; ! y": "returned 2, 7",
		"(fun f(n) if n < 1 then 0 else f(n - 1))(2)": "returned 0, 26",
	} {
		how, count, _ := strings.Cut(line, ", ")
		steps, _ := strconv.Atoi(count)
		p := program(t, text)
		for fuel := range steps + 3 {
			o := eval.Run(p, integer(4), nil, fuel)
			got := strings.Split(told(o), ",")[0]
			if fuel >= steps && (got != how || o.Steps != steps) || fuel < steps && (got != "out of fuel" || o.Steps != fuel) {
				t.Errorf("%s, fuel %d: %s", text, fuel, told(o))
			}
		}
		if o := eval.Run(p, integer(4), nil, api.MaxSteps); strings.Split(told(o), ",")[0] != how || o.Steps != steps {
			t.Errorf("%s: %s", text, told(o))
		}
		for _, fuel := range []int{-1, -2, math.MinInt, api.MaxSteps + 1, math.MaxInt, 1 << 32} {
			refuses(t, p, integer(4), cells(integer(1)), fuel)
		}
	}
}

// TestFuelTells (P9.1): a run out of fuel, stuck or exhausted tells its events and cells then.
func TestFuelTells(t *testing.T) {
	p := program(t, "out 5; x := new 6; out[high] 7")
	for fuel, line := range []string{
		"out of fuel,, 1, 0", "out of fuel,, 1, 1", "out of fuel, 5, 1, 2", "out of fuel, 5, 1, 3", "out of fuel, 5, 1, 4", "out of fuel, 5, 1 6, 5",
		"out of fuel, 5, r1 6, 6", "out of fuel, 5, r1 6, 7", "returned 0, 5 ^7, r1 6, 8", "returned 0, 5 ^7, r1 6, 8",
	} {
		tellsOne(t, p, ref(0), cells(integer(1)), fuel, line)
	}
	tells(t, ref(0), cells(sized(api.MaxValue)), map[string]string{
		"out 5; let y = ! x in x := 3; (y, y)": "exhausted, 5, 3, 10",
		"out 5; x := 3; fst x":                 "stuck, 5, 3, 7",
	})
}

// counting calls itself so often, at nine steps each, and does so many more.
func counting(t *testing.T, calls, more int) api.Program {
	text := strings.Repeat("1; ", more) + "(fun f(n) if n < 1 then 0 else f(n - 1))(" + strconv.Itoa(calls) + ")"
	return program(t, text)
}

// TestMaxSteps (P9.1): a run of just MaxSteps steps, and one of one more.
func TestMaxSteps(t *testing.T) {
	tellsOne(t, counting(t, 2, 0), integer(4), nil, api.MaxSteps, "returned 0,,, 26")
	tellsOne(t, counting(t, 7280, 8), integer(4), nil, api.MaxSteps, "returned 0,,, 65536")
	tellsOne(t, counting(t, 7280, 8), integer(4), nil, api.MaxSteps-1, "out of fuel,,, 65535")
	tellsOne(t, counting(t, 7280, 9), integer(4), nil, api.MaxSteps, "out of fuel,,, 65536")
}

// TestManyCells (P9.1): 1000 cells, and one more; a run may make more than those.
func TestManyCells(t *testing.T) {
	heap := cells(make([]api.Value, 1000)...)
	for i := range heap {
		heap[i].Value = integer(int64(i))
	}
	p := program(t, "x := 5; new ! x")
	o := eval.Run(p, ref(999), heap, 10)
	if o.Kind != api.Returned || text(o.Value) != "r1000" || len(o.Heap) != 1001 || o.Heap[999].Value.N != 5 || o.Heap[998].Value.N != 998 || o.Heap[1000].Value.N != 5 || o.Steps != 6 {
		t.Error(o.Kind, text(o.Value), len(o.Heap), o.Steps)
	}
	refuses(t, p, ref(999), append(heap, heap[0]), 10)
	refuses(t, program(t, "1"), ref(999), append(heap, heap...), 0)
	o = eval.Run(program(t, "(fun f(n) (new n; f(n + 1)))(0)"), integer(1), heap, api.MaxSteps)
	if made := len(o.Heap) - 1000; o.Kind != api.OutOfFuel || made != 65533/7+1 || o.Heap[1000+made-1].Value.N != int64(made-1) {
		t.Error(o.Kind, made)
	}
}

// TestMaxValue (P9.1): a Pair and a Fun of MaxValue nodes, and of one more.
func TestMaxValue(t *testing.T) {
	returns := func(text string, arg api.Value, nodes, steps int) {
		t.Helper()
		o := eval.Run(program(t, text), arg, nil, 100)
		if o.Kind != api.Returned || count(o.Value) != nodes || o.Steps != steps {
			t.Errorf("%s: %d, %d nodes, %d steps", text, o.Kind, count(o.Value), o.Steps)
		}
	}
	returns("(x, 1)", sized(1998), 2000, 3)
	returns("(1, x)", sized(1998), 2000, 3)
	returns("fun f(n) x", sized(1999), 2000, 1)
	returns("let y = 1 in fun f(n) x + y", sized(1998), 2000, 2)
	returns("let y = (x, x) in (y, y)", sized(498), 1+2*997, 6)
	returns("fst ((x, 1), 2)", sized(1996), 1998, 6)
	tells(t, sized(1999), nil, map[string]string{
		"(x, 1)": "exhausted,,, 3", "(1, x)": "exhausted,,, 3", "(out 1, x)": "exhausted, 1,, 4",
		"let y = 1 in fun f(n) x + y":   "exhausted,,, 2",
		"(x, x); out 1":                 "exhausted,,, 3",
		"(1, (x, 2))":                   "exhausted,,, 4",
		"let r = new x in (! r, ! r)":   "exhausted,, " + text(sized(1999)) + ", 7",
		"(fun f(n) fun g(m) (f, x))(1)": "exhausted,,, 4",
	})
	tells(t, sized(2000), nil, map[string]string{
		"fun f(n) x": "exhausted,,, 1", "(fun f(n) fun g(m) n)(x)": "exhausted,,, 4",
		// What isn't made anew isn't asked.
		"(fun f(n) let m = n in 7)(x)":    "returned 7,,, 5",
		"let r = new x in ! r; r := 1; 2": "returned 2,, 1, 8",
		"fun f(n) 1":                      "returned f1[],,, 1",
	})
	// A tree of Pairs that doubles: 2^n - 1 nodes.
	tells(t, integer(4), nil, map[string]string{"(fun f(p) f((p, p)))(x)": "exhausted,,, " + strconv.Itoa(3+9*5+4)})
	o := eval.Run(program(t, "let r = new x in (fun f(n) if n < 1 then ! r else (r := (! r, ! r); f(n - 1)))(9)"), integer(4), nil, 1000)
	if o.Kind != api.Returned || count(o.Value) != 1023 {
		t.Error(told(o))
	}
	tells(t, integer(4), nil, map[string]string{"let r = new x in (fun f(n) if n < 1 then 5 else (r := (! r, ! r); f(n - 1)))(9)": "returned 5,, " + doubled(9) + ", " + strconv.Itoa(2+3+9*16+5)})
}

// doubled is the text of the tree of Pairs so deep.
func doubled(deep int) string {
	if deep == 0 {
		return "4"
	}
	half := doubled(deep - 1)
	return "p[" + half + " " + half + "]"
}

func count(v api.Value) int {
	n := 1
	for _, part := range v.Parts {
		n += count(part)
	}
	return n
}

// TestDeepRecursion (P9.1, R1): programs that call themselves as deep as the fuel bears, with as much begun around each call as may stand there; they end, also by what they raise.
func TestDeepRecursion(t *testing.T) {
	nots := strings.Repeat("not ", 26)
	for text, line := range map[string]string{
		"(fun f(n) f(n))(1)":                                       "out of fuel,,, 65536",
		"(fun f(n) " + nots + "f(n))(1)":                           "out of fuel,,, 65536",
		"(fun f(n) (1, f(n)))(1)":                                  "out of fuel,,, 65536",
		"(fun f(n) let y = f(n) in y)(1)":                          "out of fuel,,, 65536",
		"(fun f(n) try f(n) with e => f(e) end)(1)":                "out of fuel,,, 65536",
		"(fun f(n) if n < 1 then 0 else 1 + f(n - 1))(5956)":       "returned 5956,,, " + strconv.Itoa(3+5956*11+5),
		"(fun f(n) if n < 1 then raise 8 else 1 + f(n - 1))(6000)": "raised 8,,, " + strconv.Itoa(3+6000*10+6),
		"(fun f(n) if n < 1 then " + strings.Repeat("not ", 20) + "1 else " + nots[:96] + "f(n - 1))(7000)": "stuck,,, " + strconv.Itoa(3+7000*9+6),
		"try (fun f(n) if n < 1 then raise 8 else " + nots[:92] + "f(n - 1))(7000) with e => e end":         "returned 8,,, " + strconv.Itoa(3+7000*9+7),
		"(fun f(n) try if n < 1 then raise 8 else f(n - 1) with e => raise e end)(5000)":                    "raised 8,,, " + strconv.Itoa(3+5000*9+6+2*5001),
	} {
		tellsOne(t, program(t, text), integer(4), nil, api.MaxSteps, line)
	}
}
