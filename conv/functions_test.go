package conv_test

import "testing"

// TestFunctions (P11.1): their numbers, types and bounds, what they capture, and their own names.
func TestFunctions(t *testing.T) {
	for text, want := range map[string]string{
		// Nothing is captured, and the own name isn't needed.
		"x: int@a): int@abc ! b = (fun f(n: int@c): int@bc ! ab, b => n)(1)": `
			fn int@a -> int@abc ! o, b
			slots int@a; [int@c -> int@bc ! ab, b]@o; int@o; int@bc
			9 d1 n1 @o
			1 d2 n1 @o
			11 d3 a1 b2 @o
			out 3
			fn int@c -> int@bc ! ab, b
			slots int@c; int@c
			3 d1 a0 @o
			out 1`,
		// The own name is free in the Part: its slot comes ahead of all others but those captured, which are two.
		"x: int@a): int@abc ! none = let k = 1 in (fun f(n: int@ab): int@abc ! abc, none => if n < k then x else f(n - k))(x)": `
			fn int@a -> int@abc ! o, none
			slots int@a; int@o; [int@ab -> int@abc ! abc, none]@o; int@a; int@abc
			1 d1 n1 @o
			9 d2 n1 +0 +1 @o
			3 d3 a0 @o
			11 d4 a2 b3 @o
			out 4
			fn int@ab -> int@abc ! abc, none
			caps int@a; int@o
			slots int@ab; int@a; int@o; [int@ab -> int@abc ! abc, none]@o; int@ab; int@o; bool@ab; int@abc; int@ab; [int@ab -> int@abc ! abc, none]@ab; int@ab; int@ab; int@ab; int@abc
			10 d3 @o
			3 d4 a0 @o
			3 d5 a2 @o
			4 d6 a4 b5 n11 @o
			16 a6 @o {
				3 d8 a1 @ab
				3 d7 a8 @ab
			} else {
				3 d9 a3 @ab
				3 d10 a0 @ab
				3 d11 a2 @ab
				4 d12 a10 b11 n7 @ab
				11 d13 a9 b12 @ab
				3 d7 a13 @ab
			}
			out 7`,
		// The own name is the argument's, too: it is the argument that is meant.
		"x: int@a): int@abc ! none = (fun n(n: int@c): int@c ! o, none => n)(1)": `
			fn int@a -> int@abc ! o, none
			slots int@a; [int@c -> int@c ! o, none]@o; int@o; int@c
			9 d1 n1 @o
			1 d2 n1 @o
			11 d3 a1 b2 @o
			out 3
			fn int@c -> int@c ! o, none
			slots int@c; int@c
			3 d1 a0 @o
			out 1`,
		// The own name stands in the Part, but is another one there.
		"x: int@a): int@abc ! none = (fun f(n: int@c): int@c ! o, none => let f = n in f)(1)": `
			fn int@a -> int@abc ! o, none
			slots int@a; [int@c -> int@c ! o, none]@o; int@o; int@c
			9 d1 n1 @o
			1 d2 n1 @o
			11 d3 a1 b2 @o
			out 3
			fn int@c -> int@c ! o, none
			slots int@c; int@c; int@c
			3 d1 a0 @o
			3 d2 a1 @o
			out 2`,
		// The argument is named like one that stands around, the function like another: neither is captured.
		"x: int@a): int@abc ! none = let y = 2 in (fun y(x: int@c): int@c ! o, none => x)(y)": `
			fn int@a -> int@abc ! o, none
			slots int@a; int@o; [int@c -> int@c ! o, none]@o; int@o; int@c
			1 d1 n2 @o
			9 d2 n1 @o
			3 d3 a1 @o
			11 d4 a2 b3 @o
			out 4
			fn int@c -> int@c ! o, none
			slots int@c; int@c
			3 d1 a0 @o
			out 1`,
		// Within: numbers from outside, then from the left; what is captured in between, the own name of the one around, its argument.
		"x: int@a): int@abc ! none = (fun f(n: int@o): [int@a -> int@abc ! abc, none]@o ! abc, none => fun g(m: int@a): int@abc ! abc, none => (f(n))(x))(1); (fun h(n: int@o): int@o ! o, none => n)(2)": `
			fn int@a -> int@abc ! o, none
			slots int@a; [int@o -> [int@a -> int@abc ! abc, none]@o ! abc, none]@o; int@o; [int@a -> int@abc ! abc, none]@o; [int@o -> int@o ! o, none]@o; int@o; int@o
			9 d1 n1 +0 @o
			1 d2 n1 @o
			11 d3 a1 b2 @o
			9 d4 n3 @o
			1 d5 n2 @o
			11 d6 a4 b5 @o
			out 6
			fn int@o -> [int@a -> int@abc ! abc, none]@o ! abc, none
			caps int@a
			slots int@o; int@a; [int@o -> [int@a -> int@abc ! abc, none]@o ! abc, none]@o; [int@a -> int@abc ! abc, none]@o
			10 d2 @o
			9 d3 n2 +1 +2 +0 @o
			out 3
			fn int@a -> int@abc ! abc, none
			caps int@a; [int@o -> [int@a -> int@abc ! abc, none]@o ! abc, none]@o; int@o
			slots int@a; int@a; [int@o -> [int@a -> int@abc ! abc, none]@o ! abc, none]@o; int@o; [int@o -> [int@a -> int@abc ! abc, none]@o ! abc, none]@o; int@o; [int@a -> int@abc ! abc, none]@o; int@a; int@abc
			3 d4 a2 @o
			3 d5 a3 @o
			11 d6 a4 b5 @o
			3 d7 a1 @o
			11 d8 a6 b7 @o
			out 8
			fn int@o -> int@o ! o, none
			slots int@o; int@o
			3 d1 a0 @o
			out 1`,
		// What is captured has the type that it has where the function is made, raised by its PC: x itself is of o. The Part raises, but isn't done there.
		"x: (bool@a, int@o)@o): int@abc ! abc = let y = 1 in (if fst x then fun f(n: int@o): int@abc ! abc, abc => n / y else fun g(n: int@o): int@abc ! abc, abc => snd x)(2)": `
			fn (bool@a, int@o)@o -> int@abc ! o, abc
			slots (bool@a, int@o)@o; int@o; (bool@a, int@o)@o; bool@a; [int@o -> int@abc ! abc, abc]@a; [int@o -> int@abc ! abc, abc]@a; [int@o -> int@abc ! abc, abc]@a; int@o; int@abc
			1 d1 n1 @o
			3 d2 a0 @o
			7 d3 a2 @o
			16 a3 @o {
				9 d5 n1 +1 @a
				3 d4 a5 @a
			} else {
				9 d6 n2 +0 @a
				3 d4 a6 @a
			}
			1 d7 n2 @o
			11 d8 a4 b7 @o
			out 8
			fn int@o -> int@abc ! abc, abc
			caps int@a
			slots int@o; int@a; int@o; int@a; int@a
			3 d2 a0 @o
			3 d3 a1 @o
			4 d4 a2 b3 n9 @o
			out 4
			fn int@o -> int@abc ! abc, abc
			caps (bool@a, int@o)@a
			slots int@o; (bool@a, int@o)@a; (bool@a, int@o)@a; int@a
			3 d2 a1 @o
			8 d3 a2 @o
			out 3`,
		// Behind a division by b, and within a way that is told by a: raised by both, one after the other.
		"x: (int@a, int@b)@o): int@abc ! abc = let y = 1 in 1 / snd x; (fun f(n: int@b): int@abc ! abc, abc => if fst x < 1 then (fun g(m: int@abc): int@abc ! abc, abc => y + n)(1) else y)(2)": `
			fn (int@a, int@b)@o -> int@abc ! o, abc
			slots (int@a, int@b)@o; int@o; int@o; (int@a, int@b)@o; int@b; int@b; [int@b -> int@abc ! abc, abc]@b; int@b; int@abc
			1 d1 n1 @o
			1 d2 n1 @o
			3 d3 a0 @o
			8 d4 a3 @o
			4 d5 a2 b4 n9 @o
			9 d6 n1 +0 +1 @b
			1 d7 n2 @b
			11 d8 a6 b7 @b
			out 8
			fn int@b -> int@abc ! abc, abc
			caps (int@a, int@b)@b; int@b
			slots int@b; (int@a, int@b)@b; int@b; (int@a, int@b)@b; int@ab; int@o; bool@ab; int@abc; [int@abc -> int@abc ! abc, abc]@ab; int@ab; int@abc; int@ab
			3 d3 a1 @o
			7 d4 a3 @o
			1 d5 n1 @o
			4 d6 a4 b5 n11 @o
			16 a6 @o {
				9 d8 n2 +2 +0 @ab
				1 d9 n1 @ab
				11 d10 a8 b9 @ab
				3 d7 a10 @abc
			} else {
				3 d11 a2 @ab
				3 d7 a11 @ab
			}
			out 7
			fn int@abc -> int@abc ! abc, abc
			caps int@ab; int@ab
			slots int@abc; int@ab; int@ab; int@ab; int@ab; int@ab
			3 d3 a1 @o
			3 d4 a2 @o
			4 d5 a3 b4 n6 @o
			out 5`,
		// The own name of the function around, captured where that is told by a.
		"x: int@a): int@abc ! abc = (fun f(n: int@a): int@abc ! abc, abc => if n < 1 then (fun g(m: int@abc): int@abc ! abc, abc => f(1))(1) else 2)(3)": `
			fn int@a -> int@abc ! o, abc
			slots int@a; [int@a -> int@abc ! abc, abc]@o; int@o; int@abc
			9 d1 n1 @o
			1 d2 n3 @o
			11 d3 a1 b2 @o
			out 3
			fn int@a -> int@abc ! abc, abc
			slots int@a; [int@a -> int@abc ! abc, abc]@o; int@a; int@o; bool@a; int@abc; [int@abc -> int@abc ! abc, abc]@a; int@a; int@abc; int@a
			10 d1 @o
			3 d2 a0 @o
			1 d3 n1 @o
			4 d4 a2 b3 n11 @o
			16 a4 @o {
				9 d6 n2 +1 @a
				1 d7 n1 @a
				11 d8 a6 b7 @a
				3 d5 a8 @abc
			} else {
				1 d9 n2 @a
				3 d5 a9 @a
			}
			out 5
			fn int@abc -> int@abc ! abc, abc
			caps [int@a -> int@abc ! abc, abc]@a
			slots int@abc; [int@a -> int@abc ! abc, abc]@a; [int@a -> int@abc ! abc, abc]@a; int@o; int@abc
			3 d2 a1 @o
			1 d3 n1 @o
			11 d4 a2 b3 @o
			out 4`,
		// Layer 8's order is that of the last one of each name in the scope: here x stands behind y. What is raised is a name like others.
		"x: int@a): int@abc ! none = let y = 1 in let x = 2 in try 3 with z => (fun f(n: int@o): int@o ! o, none => n + z + y + x)(4) end": `
			fn int@a -> int@abc ! o, none
			slots int@a; int@o; int@o; int@o; int@o; int@o; [int@o -> int@o ! o, none]@o; int@o; int@o
			1 d1 n1 @o
			1 d2 n2 @o
			17 d5 @o {
				1 d4 n3 @o
				3 d3 a4 @o
			} else {
				9 d6 n1 +1 +2 +5 @o
				1 d7 n4 @o
				11 d8 a6 b7 @o
				3 d3 a8 @o
			}
			out 3
			fn int@o -> int@o ! o, none
			caps int@o; int@o; int@o
			slots int@o; int@o; int@o; int@o; int@o; int@o; int@o; int@o; int@o; int@o; int@o
			3 d4 a0 @o
			3 d5 a3 @o
			4 d6 a4 b5 n6 @o
			3 d7 a1 @o
			4 d8 a6 b7 n6 @o
			3 d9 a2 @o
			4 d10 a8 b9 n6 @o
			out 10`,
	} {
		lays(t, text, want)
	}
}
