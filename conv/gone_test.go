package conv_test

import "testing"

// TestBehindRaise (P11.1): no node is laid, and no slot numbered, behind what isn't come out of, whichever Part of whatever that is.
func TestBehindRaise(t *testing.T) {
	const alone = `
		fn int@a -> int@abc ! o, abc
		slots int@a; int@o
		1 d1 n1 @o
		18 a1 @o
		out none`
	for _, text := range []string{
		"raise[int@o] 1",
		"raise[int@o] raise[int@o] 1",
		"(raise[int@o] 1); 2",
		"let y = raise[int@o] 1 in y + x",
		"(raise[int@o] 1) + x",
		"(raise[int@o] 1) / raise[int@o] 2",
		"if raise[bool@o] 1 then 2 else 3",
		"if not raise[bool@o] 1 then 2 else raise[int@o] 3",
		"fst raise[(int@o, int@o)@o] 1",
		"snd raise[(int@o, int@o)@o] 1",
		"fst (raise[int@o] 1, 2)",
		"! raise[ref(int@o)@o] 1",
		"! new[int@o] raise[int@o] 1",
		"raise[ref(int@o)@o] 1 := 2",
		"out[o] raise[int@o] 1",
		"(raise[[int@o -> int@o ! abc, none]@o] 1)(2)",
		"(raise[int@o] 1); try 2 with e => e end",
		"(raise[int@o] 1); if true then 2 else 3",
		"out[o] (let y = (raise[int@o] 1; 3) in (4; (5, y); y))",
	} {
		lays(t, "x: int@a): int@abc ! abc = "+text, alone)
	}
	const second = `
		fn int@a -> int@abc ! o, abc
		slots int@a; int@o; int@o
		1 d1 n5 @o
		1 d2 n1 @o
		18 a2 @o
		out none`
	for _, text := range []string{
		"5; raise[int@o] 1",
		"let y = 5 in raise[int@o] 1",
		"5 % (raise[int@o] 1) + 2",
		"(5 == raise[int@o] 1); 2",
		"snd (5, raise[int@o] 1)",
		"(5, (raise[int@o] 1) + 2); 3",
	} {
		lays(t, "x: int@a): int@abc ! abc = "+text, second)
	}
	for text, want := range map[string]string{
		"x: ref(int@abc)@o): int@abc ! abc = (x := raise[int@o] 1) + 2": `
			fn ref(int@abc)@o -> int@abc ! o, abc
			slots ref(int@abc)@o; ref(int@abc)@o; int@o
			3 d1 a0 @o
			1 d2 n1 @o
			18 a2 @o
			out none`,
		"x: [int@o -> int@o ! abc, none]@o): int@abc ! abc = x(raise[int@o] 1)": `
			fn [int@o -> int@o ! abc, none]@o -> int@abc ! o, abc
			slots [int@o -> int@o ! abc, none]@o; [int@o -> int@o ! abc, none]@o; int@o
			3 d1 a0 @o
			1 d2 n1 @o
			18 a2 @o
			out none`,
		// What is raised stands behind a division: Env is what is behind that.
		"x: int@a): int@abc ! abc = raise[int@o] (2 / x)": `
			fn int@a -> int@abc ! o, abc
			slots int@a; int@o; int@a; int@a
			1 d1 n2 @o
			3 d2 a0 @o
			4 d3 a1 b2 n9 @o
			18 a3 @a
			out none`,
	} {
		lays(t, text, want)
	}
}

// TestIfOutOf (P11.1): an EIf of which one way, or none, is come out of. Its slot is numbered ahead of both in any case.
func TestIfOutOf(t *testing.T) {
	for text, want := range map[string]string{
		"x: int@a): int@abc ! abc = (if x < 1 then raise[int@o] 1 else 2) + 3": `
			fn int@a -> int@abc ! o, abc
			slots int@a; int@a; int@o; bool@a; int@a; int@a; int@a; int@a; int@a
			3 d1 a0 @o
			1 d2 n1 @o
			4 d3 a1 b2 n11 @o
			16 a3 @o {
				1 d5 n1 @a
				18 a5 @a
			} else {
				1 d6 n2 @a
				3 d4 a6 @a
			}
			1 d7 n3 @a
			4 d8 a4 b7 n6 @a
			out 8`,
		"x: int@a): int@abc ! abc = (if true then 1 else raise[int@o] x) + 3": `
			fn int@a -> int@abc ! o, abc
			slots int@a; bool@o; int@a; int@o; int@a; int@a; int@a
			2 d1 n1 @o
			16 a1 @o {
				1 d3 n1 @o
				3 d2 a3 @o
			} else {
				3 d4 a0 @o
				18 a4 @o
			}
			1 d5 n3 @a
			4 d6 a2 b5 n6 @a
			out 6`,
		"x: int@a): int@abc ! abc = (if x < 1 then raise[int@o] 1 else raise[int@o] 2); 3": `
			fn int@a -> int@abc ! o, abc
			slots int@a; int@a; int@o; bool@a; int@a; int@a; int@a
			3 d1 a0 @o
			1 d2 n1 @o
			4 d3 a1 b2 n11 @o
			16 a3 @o {
				1 d5 n1 @a
				18 a5 @a
			} else {
				1 d6 n2 @a
				18 a6 @a
			}
			out none`,
		// Of one way alone another EIf isn't come out of; the one around is, by its other way.
		"x: bool@o): int@abc ! abc = if x then 1 + (if true then raise[int@o] 1 else raise[int@o] 2) else 3": `
			fn bool@o -> int@abc ! o, abc
			slots bool@o; bool@o; int@o; int@o; bool@o; int@o; int@o; int@o; int@o
			3 d1 a0 @o
			16 a1 @o {
				1 d3 n1 @o
				2 d4 n1 @o
				16 a4 @o {
					1 d6 n1 @o
					18 a6 @o
				} else {
					1 d7 n2 @o
					18 a7 @o
				}
			} else {
				1 d8 n3 @o
				3 d2 a8 @o
			}
			out 2`,
	} {
		lays(t, text, want)
	}
}

// TestTryOutOf (P11.1): an ETry of which one way, or none, is come out of. What is raised has its slot in any case.
func TestTryOutOf(t *testing.T) {
	for text, want := range map[string]string{
		"x: int@a): int@abc ! abc = try raise[int@o] x with e => e end": `
			fn int@a -> int@abc ! o, abc
			slots int@a; int@a; int@a; int@a; int@a
			17 d3 @o {
				3 d2 a0 @o
				18 a2 @o
			} else {
				3 d4 a3 @a
				3 d1 a4 @a
			}
			out 1`,
		"x: int@a): int@abc ! abc = (try 1 with e => raise[int@o] x end) + 3": `
			fn int@a -> int@abc ! o, abc
			slots int@a; int@a; int@o; int@o; int@a; int@a; int@a
			17 d3 @o {
				1 d2 n1 @o
				3 d1 a2 @o
			} else {
				3 d4 a0 @o
				18 a4 @o
			}
			1 d5 n3 @a
			4 d6 a1 b5 n6 @a
			out 6`,
		"x: int@a): int@abc ! abc = (try (raise[int@o] x); 7 with e => raise[int@o] e end) + 3": `
			fn int@a -> int@abc ! o, abc
			slots int@a; int@a; int@a; int@a; int@a
			17 d3 @o {
				3 d2 a0 @o
				18 a2 @o
			} else {
				3 d4 a3 @a
				18 a4 @a
			}
			out none`,
	} {
		lays(t, text, want)
	}
}

// TestFunctionsThatArentComeTo (P11.1): those behind what isn't come out of have their numbers, and all else, too, though nothing makes them; what they capture has a type, if no slot.
func TestFunctionsThatArentComeTo(t *testing.T) {
	for text, want := range map[string]string{
		"x: int@a): int@abc ! abc = (raise[int@o] x); let y = 1 in (fun f(n: int@abc): int@abc ! abc, abc => n + y + (fun g(m: int@o): int@o ! abc, abc => m)(1))(2)": `
			fn int@a -> int@abc ! o, abc
			slots int@a; int@a
			3 d1 a0 @o
			18 a1 @o
			out none
			fn int@abc -> int@abc ! abc, abc
			caps int@a
			slots int@abc; int@a; int@abc; int@a; int@abc; [int@o -> int@o ! abc, abc]@o; int@o; int@abc; int@abc
			3 d2 a0 @o
			3 d3 a1 @o
			4 d4 a2 b3 n6 @o
			9 d5 n2 @o
			1 d6 n1 @o
			11 d7 a5 b6 @o
			4 d8 a4 b7 n6 @abc
			out 8
			fn int@o -> int@o ! abc, abc
			slots int@o; int@o
			3 d1 a0 @o
			out 1`,
		// One whose Part isn't come out of gives nothing; its own name is laid, for it is free in the Part.
		"x: int@a): int@abc ! abc = 1 + (fun f(n: int@o): int@abc ! abc, abc => ((raise[int@o] n); f(n) + x))(1)": `
			fn int@a -> int@abc ! o, abc
			slots int@a; int@o; [int@o -> int@abc ! abc, abc]@o; int@o; int@abc; int@abc
			1 d1 n1 @o
			9 d2 n1 +0 @o
			1 d3 n1 @o
			11 d4 a2 b3 @o
			4 d5 a1 b4 n6 @abc
			out 5
			fn int@o -> int@abc ! abc, abc
			caps int@a
			slots int@o; int@a; [int@o -> int@abc ! abc, abc]@o; int@o
			10 d2 @o
			3 d3 a0 @o
			18 a3 @o
			out none`,
		// That a Part isn't come out of says nothing of the place where its function is made.
		"x: int@a): int@abc ! abc = (fun f(n: int@o): int@o ! abc, abc => raise[int@o] n); 5": `
			fn int@a -> int@abc ! o, abc
			slots int@a; [int@o -> int@o ! abc, abc]@o; int@o
			9 d1 n1 @o
			1 d2 n5 @o
			out 2
			fn int@o -> int@o ! abc, abc
			slots int@o; int@o
			3 d1 a0 @o
			18 a1 @o
			out none`,
	} {
		lays(t, text, want)
	}
}
