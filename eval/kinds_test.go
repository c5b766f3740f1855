package eval_test

import (
	"strings"
	"testing"

	"palisade/api"
)

// TestPlain (P9.1): numbers, bools, names, what is let, and what follows something.
func TestPlain(t *testing.T) {
	tells(t, integer(4), nil, map[string]string{
		"0": "returned 0,,, 1", "7": "returned 7,,, 1", "9223372036854775807": "returned 9223372036854775807,,, 1",
		"true": "returned true,,, 1", "false": "returned false,,, 1",
		"x":                        "returned 4,,, 1",
		"let y = 5 in y":           "returned 5,,, 2",
		"let y = x + 1 in y * y":   "returned 25,,, 6",
		"1; 2":                     "returned 2,,, 2",
		"1; 2; 3":                  "returned 3,,, 3",
		"out 1; out 2; true":       "returned true, 1 2,, 5",
		"let y = (out 1; 2) in 3":  "returned 3, 1,, 4",
		"let y = 1 in out y; x":    "returned 4, 1,, 4",
		"not true":                 "returned false,,, 2",
		"not false":                "returned true,,, 2",
		"not not (x < 5)":          "returned true,,, 5",
		"let y = true in not y; y": "returned true,,, 4",
	})
}

// TestGiven (P9.1): the argument is any formed value, of the Param's type or not.
func TestGiven(t *testing.T) {
	for _, v := range []api.Value{integer(-1 << 63), boolean(1), boolean(0), pair(integer(1), boolean(0)), fun(0), fun(59, pair(fun(3), ref(9)), ref(2)), ref(0), ref(1<<31 - 1), sized(api.MaxValue)} {
		tellsOne(t, program(t, "x"), v, nil, 1, "returned "+text(v)+",,, 1")
		tellsOne(t, program(t, "let y = x in 1; y"), v, cells(v), 3, "returned "+text(v)+",, "+text(v)+", 3")
	}
}

// TestSeveral (P9.1): of a name that stands several times the last one counts, and only where it stands.
func TestSeveral(t *testing.T) {
	tells(t, integer(4), nil, map[string]string{
		"let x = 1 in x":                                            "returned 1,,, 2",
		"let x = x + 1 in let x = x * x in x":                       "returned 25,,, 7",
		"(let x = 1 in x) + x":                                      "returned 5,,, 4",
		"x + (let x = 1 in x) + x":                                  "returned 9,,, 6",
		"let y = (let x = 1 in x) in x":                             "returned 4,,, 3",
		"try raise 9 with x => x end":                               "returned 9,,, 3",
		"(try raise 9 with x => x end) + x":                         "returned 13,,, 5",
		"try (let x = 1 in raise x) with y => x end":                "returned 4,,, 4",
		"(fun f(x) x)(1) + x":                                       "returned 5,,, 6",
		"(fun x(n) x)(1)":                                           "returned f1[],,, 4",
		"(fun f(f) f)(1)":                                           "returned 1,,, 4",
		"let f = 8 in (fun f(n) f)(1)":                              "returned f1[],,, 5",
		"let n = 8 in (fun f(n) n)(1) + n":                          "returned 9,,, 7",
		"let g = fun f(n) x in let x = 1 in g(0)":                   "returned 4,,, 6",
		"let x = 1 in let g = fun f(n) x in let x = 2 in (g(0), x)": "returned p[1 2],,, 9",
	})
}

// TestIf (P9.1): one of both ways is gone, the other one not at all.
func TestIf(t *testing.T) {
	tells(t, integer(4), nil, map[string]string{
		"if true then 1 else 2":                              "returned 1,,, 3",
		"if false then 1 else 2":                             "returned 2,,, 3",
		"if x < 5 then x else y":                             "returned 4,,, 5",
		"if x < 4 then y else x":                             "returned 4,,, 5",
		"if true then out 1 else out 2":                      "returned 0, 1,, 4",
		"if false then out 1 else out 2":                     "returned 0, 2,, 4",
		"if (out 3; false) then 1 else raise 2":              "raised 2, 3,, 6",
		"if true then if false then 1 else 2 else 3":         "returned 2,,, 5",
		"(if true then 1 else 2) + (if false then 1 else 2)": "returned 3,,, 7",
	})
}

// TestPairs (P9.1)
func TestPairs(t *testing.T) {
	tells(t, pair(integer(4), pair(boolean(1), ref(7))), nil, map[string]string{
		"(1, 2)":                       "returned p[1 2],,, 3",
		"((1, x), not true)":           "returned p[p[1 p[4 p[true r7]]] false],,, 6",
		"fst x":                        "returned 4,,, 2",
		"snd x":                        "returned p[true r7],,, 2",
		"fst snd x":                    "returned true,,, 3",
		"snd snd x":                    "returned r7,,, 3",
		"fst (1, 2) + snd (3, 5)":      "returned 6,,, 9",
		"(out 1, out 2)":               "returned p[0 0], 1 2,, 5",
		"let y = (x, x) in (y, fst y)": "returned p[p[p[4 p[true r7]] p[4 p[true r7]]] p[4 p[true r7]]],,, 7",
	})
}

// TestCells (P9.1): new ones stand behind all others, with their Types; what one holds is got and set.
func TestCells(t *testing.T) {
	tells(t, ref(1), cells(integer(5), boolean(1)), map[string]string{
		"x":                            "returned r1,, 5 ^true, 1",
		"! x":                          "returned true,, 5 ^true, 2",
		"x := 8":                       "returned 0,, 5 ^8, 3",
		"x := 8; ! x":                  "returned 8,, 5 ^8, 5",
		"x := x":                       "returned 0,, 5 ^r1, 3",
		"x := x; ! ! ! x":              "returned r1,, 5 ^r1, 7",
		"new 3":                        "returned r2,, 5 ^true 3, 2",
		"new[int@high] 3":              "returned r2,, 5 ^true ^3, 2",
		"(new 3, new[int@high] 4)":     "returned p[r2 r3],, 5 ^true 3 ^4, 5",
		"! new new x":                  "returned r2,, 5 ^true r1 r2, 4",
		"let r = new x in r := 9; ! r": "returned 9,, 5 ^true 9, 7",
		"let r = new 1 in let s = r in s := 2; ! r":        "returned 2,, 5 ^true 2, 8",
		"let r = new 1 in let y = ! r in r := 2; (y, ! r)": "returned p[1 2],, 5 ^true 2, 11",
		"(x := 1) + (x := 2)":                              "returned 0,, 5 ^2, 7",
		"(out 1; x) := (out 2; 6)":                         "returned 0, 1 2, 5 ^6, 7",
		"(x := new 2); (! x) := 3; ! ! x":                  "returned 3,, 5 ^r2 3, 11",
		"new (1, true)":                                    "returned r2,, 5 ^true p[1 true], 4",
	})
	tells(t, integer(4), nil, map[string]string{
		"let r = new x in r := 9; ! r": "returned 9,, 9, 7",
		"new 1; new 2; 3":              "returned 3,, 1 2, 5",
	})
	// A new cell's Type is the ENew's, whatever it holds.
	deep := "ref(([int@low -> bool@high ! low, none]@low, int@high)@low)@high"
	p := program(t, "new["+deep+"] 3")
	tellsOne(t, p, integer(4), nil, 9, "returned r0,, ^3, 2")
	wantTypes(t, p, integer(4), nil, deep)
}

// TestOut (P9.1): events, in order, with their labels.
func TestOut(t *testing.T) {
	tells(t, integer(4), cells(integer(1)), map[string]string{
		"out x":                                     "returned 0, 4, 1, 2",
		"out[high] x":                               "returned 0, ^4, 1, 2",
		"out[high] 3; out 0 - 7":                    "returned -7, ^3 0, 1, 6",
		"out (0 - 7)":                               "returned 0, -7, 1, 4",
		"out out[high] out 5":                       "returned 0, 5 ^0 0, 1, 4",
		"(out 1) + (out 2) * (out[high] 3)":         "returned 0, 1 2 ^3, 1, 8",
		"(fun f(n) out n)(6); out x":                "returned 0, 6 4, 1, 7",
		"let y = (out 1; 9) in out y; raise 3":      "raised 3, 1 9, 1, 7",
		"out 1; y":                                  "stuck, 1, 1, 3",
		"(out 1; fun f(n) (out n; f(n)))(out 2; 3)": "out of fuel, 1 2" + strings.Repeat(" 3", 13106) + ", 1, 65536",
	})
}

// TestRaise (P9.1): where a Part raises nothing more of the expression is done.
func TestRaise(t *testing.T) {
	tells(t, integer(4), cells(integer(1)), map[string]string{
		"raise x":                          "raised 4,, 1, 2",
		"raise (0 - x)":                    "raised -4,, 1, 4",
		"raise raise 3":                    "raised 3,, 1, 2",
		"1 / 0":                            "raised 0,, 1, 3",
		"x % (x - x)":                      "raised 0,, 1, 5",
		"let y = raise 3 in out y":         "raised 3,, 1, 2",
		"let y = 1 in raise 3; out y":      "raised 3,, 1, 3",
		"raise 3; out 1":                   "raised 3,, 1, 2",
		"out 1; raise 3":                   "raised 3, 1, 1, 4",
		"if raise 3 then out 1 else out 2": "raised 3,, 1, 2",
		"if true then raise 3 else out 2":  "raised 3,, 1, 4",
		"(raise 3)(out 1)":                 "raised 3,, 1, 2",
		"1(raise 3)":                       "raised 3,, 1, 3",
		"(fun f(n) out n)(raise 3)":        "raised 3,, 1, 3",
		"(fun f(n) raise n)(3) + (out 1)":  "raised 3,, 1, 5",
		"(raise 3, out 1)":                 "raised 3,, 1, 2",
		"(out 1, raise 3)":                 "raised 3, 1, 1, 4",
		"fst raise 3":                      "raised 3,, 1, 2",
		"snd raise 3":                      "raised 3,, 1, 2",
		"new raise 3":                      "raised 3,, 1, 2",
		"! raise 3":                        "raised 3,, 1, 2",
		"(raise 3) := new 1":               "raised 3,, 1, 2",
		"(new 1) := raise 3":               "raised 3,, 1 1, 4",
		"true := raise 3":                  "raised 3,, 1, 3",
		"out raise 3":                      "raised 3,, 1, 2",
		"(raise 3) + (out 1)":              "raised 3,, 1, 2",
		"true + raise 3":                   "raised 3,, 1, 3",
		"(out 1) + raise 3":                "raised 3, 1, 1, 4",
		"not raise 3":                      "raised 3,, 1, 2",
		"(1 / 0, out 1)":                   "raised 0,, 1, 3",
		"fun f(n) raise 3":                 "returned f1[],, 1, 1",
		"(fun f(n) if n < 1 then raise x else 1 + f(n - 1))(3)": "raised 4,, 1, 39",
	})
}

// TestTry (P9.1): its first Part's value; else, if that raises, its second.
func TestTry(t *testing.T) {
	tells(t, integer(4), cells(integer(1)), map[string]string{
		"try 5 with e => out e end":                                                         "returned 5,, 1, 1",
		"try (x, 1) with e => e end":                                                        "returned p[4 1],, 1, 3",
		"try raise 7 with e => e end":                                                       "returned 7,, 1, 3",
		"try raise 7 with e => (e, x) end":                                                  "returned p[7 4],, 1, 5",
		"try 1 / 0 with e => e + 1 end":                                                     "returned 1,, 1, 6",
		"try 1 / 1 with e => e end":                                                         "returned 1,, 1, 3",
		"try out 1; raise 7; out 2 with e => out e end":                                     "returned 0, 1 7, 1, 6",
		"try raise 7 with e => raise e + 1 end":                                             "raised 7,, 1, 4",
		"try raise 7 with e => raise (e + 1) end":                                           "raised 8,, 1, 6",
		"try try raise 7 with e => e / 0 end with f => f end":                               "returned 0,, 1, 6",
		"try try raise 7 with e => e end with f => f + 1 end":                               "returned 7,, 1, 3",
		"try try raise 7 with e => raise (e + 1) end with e => e * 10 end":                  "returned 80,, 1, 9",
		"try (try 1 with e => 2 end) + raise 5 with f => f end":                             "returned 5,, 1, 4",
		"(try raise 1 with e => e end) + (try raise 2 with e => e end)":                     "returned 3,, 1, 7",
		"(1, (2, try (3, (4, raise 5)) with e => e end))":                                   "returned p[1 p[2 5]],, 1, 9",
		"try (fun f(n) if n < 1 then raise x else 1 + f(n - 1))(3) with e => e end":         "returned 4,, 1, 40",
		"(fun f(n) try if n < 1 then raise n else f(n - 1) with e => raise (e + 1) end)(2)": "raised 3,, 1, 39",
		"try new 3; raise 1 with e => ! x end":                                              "stuck,, 1 3, 6",
		"let r = new 1 in try r := 2; raise 3 with e => ! r end":                            "returned 2,, 1 2, 9",
		// Neither what is Stuck nor what is Exhausted is raised.
		"try y with e => e end":     "stuck,, 1, 1",
		"try not 1 with e => e end": "stuck,, 1, 2",
	})
	tells(t, sized(api.MaxValue), nil, map[string]string{"try (x, 1) with e => 2 end": "exhausted,,, 3"})
}

// TestBin (P9.1): the Ops, and which of both is the first.
func TestBin(t *testing.T) {
	tells(t, integer(-1<<63), nil, map[string]string{
		"7 + 2": "returned 9,,, 3", "7 - 2": "returned 5,,, 3", "2 - 7": "returned -5,,, 3", "7 * 2": "returned 14,,, 3",
		"7 / 2": "returned 3,,, 3", "(0 - 7) / 2": "returned -3,,, 5", "7 / (0 - 2)": "returned -3,,, 5", "(0 - 7) / (0 - 2)": "returned 3,,, 7",
		"7 % 2": "returned 1,,, 3", "(0 - 7) % 2": "returned -1,,, 5", "7 % (0 - 2)": "returned 1,,, 5", "(0 - 7) % (0 - 2)": "returned -1,,, 7",
		"7 < 2": "returned false,,, 3", "2 < 7": "returned true,,, 3", "2 < 2": "returned false,,, 3",
		"7 == 2": "returned false,,, 3", "2 == 2": "returned true,,, 3",
		"x / (0 - 1)":             "returned -9223372036854775808,,, 5",
		"x % (0 - 1)":             "returned 0,,, 5",
		"x / 0":                   "raised 0,,, 3",
		"x % 0":                   "raised 0,,, 3",
		"0 / 0":                   "raised 0,,, 3",
		"x - 1":                   "returned 9223372036854775807,,, 3",
		"9223372036854775807 + 1": "returned -9223372036854775808,,, 3",
		"9223372036854775807 * 9223372036854775807": "returned 1,,, 3",
		"x * 3":             "returned -9223372036854775808,,, 3",
		"x + x":             "returned 0,,, 3",
		"x < 0":             "returned true,,, 3",
		"x == x":            "returned true,,, 3",
		"1 + 2 * 3 - 4":     "returned 3,,, 7",
		"(out 1) < (out 2)": "returned false, 1 2,, 5",
	})
}
