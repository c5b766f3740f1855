package conv_test

import "testing"

// TestPlain (P11.1): Kinds whose Parts are laid from the left, then the node, with Env what is behind the last Part.
func TestPlain(t *testing.T) {
	for text, want := range map[string]string{
		"x: int@a): int@abc ! none = 7": `
			fn int@a -> int@abc ! o, none
			slots int@a; int@o
			1 d1 n7 @o
			out 1`,
		"x: bool@a): bool@abc ! none = true": `
			fn bool@a -> bool@abc ! o, none
			slots bool@a; bool@o
			2 d1 n1 @o
			out 1`,
		"x: bool@a): bool@abc ! c = false": `
			fn bool@a -> bool@abc ! o, c
			slots bool@a; bool@o
			2 d1 n0 @o
			out 1`,
		"x: int@a): int@a ! none = x": `
			fn int@a -> int@a ! o, none
			slots int@a; int@a
			3 d1 a0 @o
			out 1`,
		"x: int@a): int@abc ! none = x + 1": `
			fn int@a -> int@abc ! o, none
			slots int@a; int@a; int@o; int@a
			3 d1 a0 @o
			1 d2 n1 @o
			4 d3 a1 b2 n6 @o
			out 3`,
		"x: int@a): bool@abc ! none = not (x < 1)": `
			fn int@a -> bool@abc ! o, none
			slots int@a; int@a; int@o; bool@a; bool@a
			3 d1 a0 @o
			1 d2 n1 @o
			4 d3 a1 b2 n11 @o
			5 d4 a3 @o
			out 4`,
		// A division's own label is behind it, not yet at it.
		"x: int@a): int@abc ! abc = 1 / x + 2": `
			fn int@a -> int@abc ! o, abc
			slots int@a; int@o; int@a; int@a; int@a; int@a
			1 d1 n1 @o
			3 d2 a0 @o
			4 d3 a1 b2 n9 @o
			1 d4 n2 @a
			4 d5 a3 b4 n6 @a
			out 5`,
		// Each half has its own label; the second one stands behind the first.
		"x: (int@a, int@b)@c): int@abc ! abc = 1 / fst x % snd x": `
			fn (int@a, int@b)@c -> int@abc ! o, abc
			slots (int@a, int@b)@c; int@o; (int@a, int@b)@c; int@ac; int@ac; (int@a, int@b)@ac; int@abc; int@abc
			1 d1 n1 @o
			3 d2 a0 @o
			7 d3 a2 @o
			4 d4 a1 b3 n9 @o
			3 d5 a0 @ac
			8 d6 a5 @ac
			4 d7 a4 b6 n10 @ac
			out 7`,
		// A Pair's first half is raised by what is behind the second.
		"x: int@a): (int@abc, int@abc)@abc ! abc = (1, 2 / x)": `
			fn int@a -> (int@abc, int@abc)@abc ! o, abc
			slots int@a; int@o; int@o; int@a; int@a; (int@a, int@a)@a
			1 d1 n1 @o
			1 d2 n2 @o
			3 d3 a0 @o
			4 d4 a2 b3 n9 @o
			6 d5 a1 b4 @a
			out 5`,
		"x: int@a): int@abc ! abc = ! new[int@ab] 2 / x": `
			fn int@a -> int@abc ! o, abc
			slots int@a; int@o; ref(int@ab)@o; int@ab; int@a; int@ab
			1 d1 n2 @o
			12 d2 a1 [int@ab] @o
			13 d3 a2 @o
			3 d4 a0 @o
			4 d5 a3 b4 n9 @o
			out 5`,
		"x: ref((int@a, bool@b)@c)@ab): (int@abc, bool@abc)@abc ! none = ! x": `
			fn ref((int@a, bool@b)@c)@ab -> (int@abc, bool@abc)@abc ! o, none
			slots ref((int@a, bool@b)@c)@ab; ref((int@a, bool@b)@c)@ab; (int@a, bool@b)@abc
			3 d1 a0 @o
			13 d2 a1 @o
			out 2`,
		// What is called may raise by its own label, and is come to by another: the slot has both.
		"x: [int@b -> int@o ! abc, c]@a): int@abc ! abc = x(1) - 2": `
			fn [int@b -> int@o ! abc, c]@a -> int@abc ! o, abc
			slots [int@b -> int@o ! abc, c]@a; [int@b -> int@o ! abc, c]@a; int@o; int@ac; int@ac; int@ac
			3 d1 a0 @o
			1 d2 n1 @o
			11 d3 a1 b2 @o
			1 d4 n2 @ac
			4 d5 a3 b4 n7 @ac
			out 5`,
	} {
		lays(t, text, want)
	}
}

// TestSetAndOut (P11.1): what is written or told has a node without a slot, then 0 goes into its own.
func TestSetAndOut(t *testing.T) {
	for text, want := range map[string]string{
		"x: ref(int@a)@o): int@abc ! none = x := 5": `
			fn ref(int@a)@o -> int@abc ! o, none
			slots ref(int@a)@o; ref(int@a)@o; int@o; int@o
			3 d1 a0 @o
			1 d2 n5 @o
			14 a1 b2 @o
			1 d3 n0 @o
			out 3`,
		"x: int@a): int@abc ! none = out[ab] x": `
			fn int@a -> int@abc ! o, none
			slots int@a; int@a; int@o
			3 d1 a0 @o
			15 a1 n6 @o
			1 d2 n0 @o
			out 2`,
		// Behind a division all of it is told by that.
		"x: int@b): int@abc ! abc = 1 + out[bc] (1 / x)": `
			fn int@b -> int@abc ! o, abc
			slots int@b; int@o; int@o; int@b; int@b; int@b; int@b
			1 d1 n1 @o
			1 d2 n1 @o
			3 d3 a0 @o
			4 d4 a2 b3 n9 @o
			15 a4 n5 @b
			1 d5 n0 @b
			4 d6 a1 b5 n6 @b
			out 6`,
		"x: (ref(int@abc)@c, int@a)@o): int@abc ! abc = (fst x := 1 / snd x) * 3": `
			fn (ref(int@abc)@c, int@a)@o -> int@abc ! o, abc
			slots (ref(int@abc)@c, int@a)@o; (ref(int@abc)@c, int@a)@o; ref(int@abc)@c; int@o; (ref(int@abc)@c, int@a)@o; int@a; int@a; int@a; int@a; int@a
			3 d1 a0 @o
			7 d2 a1 @o
			1 d3 n1 @o
			3 d4 a0 @o
			8 d5 a4 @o
			4 d6 a3 b5 n9 @o
			14 a2 b6 @a
			1 d7 n0 @a
			1 d8 n3 @a
			4 d9 a7 b8 n8 @a
			out 9`,
	} {
		lays(t, text, want)
	}
}

// TestLetAndSeq (P11.1): they have no node and no slot: theirs is the second Part's. The last one of a name counts.
func TestLetAndSeq(t *testing.T) {
	for text, want := range map[string]string{
		"x: int@a): int@a ! none = let y = x in y": `
			fn int@a -> int@a ! o, none
			slots int@a; int@a; int@a
			3 d1 a0 @o
			3 d2 a1 @o
			out 2`,
		"x: int@a): int@a ! none = 1; x": `
			fn int@a -> int@a ! o, none
			slots int@a; int@o; int@a
			1 d1 n1 @o
			3 d2 a0 @o
			out 2`,
		// The slot of a let, and of a seq, may be another one's Part.
		"x: int@a): int@a ! none = (let y = 1 in y) + (2; 3)": `
			fn int@a -> int@a ! o, none
			slots int@a; int@o; int@o; int@o; int@o; int@o
			1 d1 n1 @o
			3 d2 a1 @o
			1 d3 n2 @o
			1 d4 n3 @o
			4 d5 a2 b4 n6 @o
			out 5`,
		// A name that is bound anew, in what it is bound to and behind that.
		"x: int@a): int@abc ! none = let x = x + 1 in let y = x in let x = (x, y) in fst x + (let x = 9 in x) + snd x": `
			fn int@a -> int@abc ! o, none
			slots int@a; int@a; int@o; int@a; int@a; int@a; int@a; (int@a, int@a)@o; (int@a, int@a)@o; int@a; int@o; int@o; int@a; (int@a, int@a)@o; int@a; int@a
			3 d1 a0 @o
			1 d2 n1 @o
			4 d3 a1 b2 n6 @o
			3 d4 a3 @o
			3 d5 a3 @o
			3 d6 a4 @o
			6 d7 a5 b6 @o
			3 d8 a7 @o
			7 d9 a8 @o
			1 d10 n9 @o
			3 d11 a10 @o
			4 d12 a9 b11 n6 @o
			3 d13 a7 @o
			8 d14 a13 @o
			4 d15 a12 b14 n6 @o
			out 15`,
		// Behind the first Part it is told by what that raises.
		"x: int@a): int@abc ! a = let y = 1 / x in 2; y": `
			fn int@a -> int@abc ! o, a
			slots int@a; int@o; int@a; int@a; int@a; int@a
			1 d1 n1 @o
			3 d2 a0 @o
			4 d3 a1 b2 n9 @o
			1 d4 n2 @a
			3 d5 a3 @a
			out 5`,
	} {
		lays(t, text, want)
	}
}

// TestIf (P11.1): its slot is numbered behind the first Part, and ahead of both others.
func TestIf(t *testing.T) {
	for text, want := range map[string]string{
		"x: bool@a): int@abc ! none = if x then 1 else 2": `
			fn bool@a -> int@abc ! o, none
			slots bool@a; bool@a; int@a; int@a; int@a
			3 d1 a0 @o
			16 a1 @o {
				1 d3 n1 @a
				3 d2 a3 @a
			} else {
				1 d4 n2 @a
				3 d2 a4 @a
			}
			out 2`,
		// Behind it it is told by what either way raises, not by what was asked.
		"x: (bool@a, int@b)@o): int@abc ! abc = (if fst x then 1 / snd x else 2) + 3": `
			fn (bool@a, int@b)@o -> int@abc ! o, abc
			slots (bool@a, int@b)@o; (bool@a, int@b)@o; bool@a; int@ab; int@a; (bool@a, int@b)@a; int@ab; int@ab; int@a; int@ab; int@ab
			3 d1 a0 @o
			7 d2 a1 @o
			16 a2 @o {
				1 d4 n1 @a
				3 d5 a0 @a
				8 d6 a5 @a
				4 d7 a4 b6 n9 @a
				3 d3 a7 @ab
			} else {
				1 d8 n2 @a
				3 d3 a8 @a
			}
			1 d9 n3 @ab
			4 d10 a3 b9 n6 @ab
			out 10`,
		// It is asked behind a division: Env is that, and the ways have the label of what is asked.
		"x: (bool@a, int@b)@o): int@abc ! abc = if (1 / snd x; fst x) then 1 else 2": `
			fn (bool@a, int@b)@o -> int@abc ! o, abc
			slots (bool@a, int@b)@o; int@o; (bool@a, int@b)@o; int@b; int@b; (bool@a, int@b)@b; bool@ab; int@ab; int@ab; int@ab
			1 d1 n1 @o
			3 d2 a0 @o
			8 d3 a2 @o
			4 d4 a1 b3 n9 @o
			3 d5 a0 @b
			7 d6 a5 @b
			16 a6 @b {
				1 d8 n1 @ab
				3 d7 a8 @ab
			} else {
				1 d9 n2 @ab
				3 d7 a9 @ab
			}
			out 7`,
		// One within another.
		"x: bool@o): int@abc ! none = if x then (if true then 1 else 2) else 3": `
			fn bool@o -> int@abc ! o, none
			slots bool@o; bool@o; int@o; bool@o; int@o; int@o; int@o; int@o
			3 d1 a0 @o
			16 a1 @o {
				2 d3 n1 @o
				16 a3 @o {
					1 d5 n1 @o
					3 d4 a5 @o
				} else {
					1 d6 n2 @o
					3 d4 a6 @o
				}
				3 d2 a4 @o
			} else {
				1 d7 n3 @o
				3 d2 a7 @o
			}
			out 2`,
	} {
		lays(t, text, want)
	}
}

// TestTry (P11.1): its slot is numbered ahead of its first Part's, what is raised behind those.
func TestTry(t *testing.T) {
	for text, want := range map[string]string{
		"x: int@a): int@abc ! none = try 1 / x with e => e end": `
			fn int@a -> int@abc ! o, none
			slots int@a; int@a; int@o; int@a; int@a; int@a; int@a
			17 d5 @o {
				1 d2 n1 @o
				3 d3 a0 @o
				4 d4 a2 b3 n9 @o
				3 d1 a4 @a
			} else {
				3 d6 a5 @a
				3 d1 a6 @a
			}
			out 1`,
		// What never raises has a way else, too, which is told by nothing.
		"x: int@a): int@abc ! none = try 1 with x => x end": `
			fn int@a -> int@abc ! o, none
			slots int@a; int@o; int@o; int@o; int@o
			17 d3 @o {
				1 d2 n1 @o
				3 d1 a2 @o
			} else {
				3 d4 a3 @o
				3 d1 a4 @o
			}
			out 1`,
		// Behind it it is told by what the second Part raises; ahead of it stands a division.
		"x: (int@a, int@b)@o): int@abc ! abc = 1 / snd x; (try 2 / fst x with e => e / snd x end) + 3": `
			fn (int@a, int@b)@o -> int@abc ! o, abc
			slots (int@a, int@b)@o; int@o; (int@a, int@b)@o; int@b; int@b; int@ab; int@b; (int@a, int@b)@b; int@ab; int@ab; int@ab; int@ab; (int@a, int@b)@ab; int@ab; int@ab; int@ab; int@ab
			1 d1 n1 @o
			3 d2 a0 @o
			8 d3 a2 @o
			4 d4 a1 b3 n9 @o
			17 d10 @b {
				1 d6 n2 @b
				3 d7 a0 @b
				7 d8 a7 @b
				4 d9 a6 b8 n9 @b
				3 d5 a9 @ab
			} else {
				3 d11 a10 @ab
				3 d12 a0 @ab
				8 d13 a12 @ab
				4 d14 a11 b13 n9 @ab
				3 d5 a14 @ab
			}
			1 d15 n3 @ab
			4 d16 a5 b15 n6 @ab
			out 16`,
		// What is raised and caught is told by its label within alone.
		"x: int@a): int@abc ! none = (try 1 / x with e => 2 end); out[o] 3": `
			fn int@a -> int@abc ! o, none
			slots int@a; int@a; int@o; int@a; int@a; int@a; int@a; int@o; int@o
			17 d5 @o {
				1 d2 n1 @o
				3 d3 a0 @o
				4 d4 a2 b3 n9 @o
				3 d1 a4 @a
			} else {
				1 d6 n2 @a
				3 d1 a6 @a
			}
			1 d7 n3 @o
			15 a7 n3 @o
			1 d8 n0 @o
			out 8`,
	} {
		lays(t, text, want)
	}
}

// TestOps (P11.1): each sign has its number.
func TestOps(t *testing.T) {
	for i, sign := range []string{"+", "-", "*", "/", "%", "<", "=="} {
		p := program(t, "x: int@o): "+[]string{"int", "bool"}[i/5]+"@o ! o = x "+sign+" 1")
		if f := converted(t, p)[0]; f.Body[2].Op != 4 || f.Body[2].N != int64(6+i) {
			t.Errorf("%s: %+v", sign, f)
		}
	}
}
