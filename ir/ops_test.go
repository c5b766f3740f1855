package ir_test

import (
	"slices"
	"strconv"
	"testing"

	"palisade/api"
	"palisade/ir"
)

// TestEnvs (P10.2): AT is below Env, of each Op: behind a division by a slot of b that holds of all Envs above b.
func TestEnvs(t *testing.T) {
	r := reference{l: sets()}
	for op := 1; op <= 18; op++ {
		for env := range 8 {
			f := with(lone(op), func(n *ir.Node) { n.Env = env })
			if !isRight(t, "at the bottom", sets(), f) {
				t.Errorf("Op %d, Env %d: not right at the bottom", op, env)
			}
			f.Slots = append(f.Slots, integer(lB))
			f.Body = append(listOf(
				ir.Node{Op: 1, Dst: allSlots, Env: lO},
				ir.Node{Op: 4, Dst: dstSlots, A: 0, B: allSlots, N: api.OpDiv, Env: lO},
			), f.Body...)
			if got := isRight(t, "at b", sets(), f); got != r.leq(lB, env) {
				t.Errorf("Op %d, Env %d: right behind the division: %v", op, env, got)
			}
		}
	}
}

// readsOf are the places of a node's slots that its Op reads.
func readsOf(n *ir.Node) []*int {
	var all []*int
	for _, field := range fieldsOf[n.Op] {
		switch field {
		case 'a':
			all = append(all, &n.A)
		case 'b':
			all = append(all, &n.B)
		case 'g':
			n.Args = slices.Clone(n.Args)
			for i := range n.Args {
				all = append(all, &n.Args[i])
			}
		}
	}
	return all
}

// TestSlotsAreSet (P10.2): each slot that an Op reads must be set; one of the same type that nothing has set isn't, till something does.
func TestSlotsAreSet(t *testing.T) {
	for op := 1; op <= 18; op++ {
		n := nodeOf(op)
		for i := range readsOf(&n) {
			f := with(lone(op), func(n *ir.Node) { *readsOf(n)[i] += unset })
			if isRight(t, "not set", sets(), f) {
				t.Errorf("Op %d reads what isn't set", op)
			}
			slot := *readsOf(&f.Body[0])[i]
			f.Body = append(listOf(ir.Node{Op: 3, Dst: slot, A: slot - unset, Env: lO}), f.Body...)
			if !isRight(t, "set", sets(), f) {
				t.Errorf("Op %d doesn't read what is set", op)
			}
		}
	}
}

// TestDstIsSet (P10.2): Dst is set behind a node, but for that of a 17; nothing is ahead of it.
func TestDstIsSet(t *testing.T) {
	for op := 1; op <= 17; op++ {
		f := lone(op)
		n := f.Body[0]
		reads := func(slot int) ir.Node { return ir.Node{Op: 3, Dst: slot, A: slot, Env: lABC} }
		for slot := dstSlots; slot < unset; slot++ {
			f.Body = listOf(n, reads(slot))
			want := slot == n.Dst && op != 17
			if got := isRight(t, "behind", sets(), f); got != want {
				t.Errorf("Op %d: the slot %d is set: %v", op, slot, got)
			}
			f.Body = listOf(reads(slot), n)
			if isRight(t, "ahead", sets(), f) {
				t.Errorf("Op %d: the slot %d is set ahead", op, slot)
			}
		}
	}
}

// TestKinds (P10.2): a slot of another Kind than a node needs, to be read or as Dst, is wrong.
func TestKinds(t *testing.T) {
	for op := 1; op <= 18; op++ {
		f := lone(op)
		n := nodeOf(op)
		for i := range readsOf(&n) {
			for slot := range dstSlots {
				if f.Slots[slot].Kind == f.Slots[*readsOf(&n)[i]].Kind {
					continue
				}
				if isRight(t, "read", sets(), with(f, func(n *ir.Node) { *readsOf(n)[i] = slot })) {
					t.Errorf("Op %d reads the slot %d", op, slot)
				}
			}
		}
		for slot := dstSlots; slot < unset; slot++ {
			g := with(f, func(n *ir.Node) { n.Dst = slot })
			want := fieldsOf[op][0] != 'd' || slot == n.Dst
			if got := isRight(t, "Dst", sets(), g); got != want {
				t.Errorf("Op %d into the slot %d: %v", op, slot, got)
			}
		}
	}
}

// probe is one node in a function of that Heap: what it captures stands in the slots from 1 on, the node's Dst behind that, and the function gives slot 0, an int@o.
type probe struct {
	heap int
	in   []api.Type
	node ir.Node
}

func (p probe) fn(dst api.Type, result, exc int) ir.Fn {
	n := p.node
	n.Dst = 1 + len(p.in)
	return ir.Fn{Param: integer(lO), Result: integer(result), Caps: p.in, Heap: p.heap, Exc: exc, Slots: slices.Concat([]api.Type{integer(lO)}, p.in, []api.Type{dst}), Body: listOf(n)}
}

// variants are types of sets that differ from t in one thing, t itself, and some of other Kinds.
func variants(t api.Type) []api.Type {
	all := append(changed(t), integer(lABC), boolean(lABC), pair(lABC, integer(lABC), integer(lABC)), ref(lABC, integer(lABC)), fun(lABC, integer(lO), integer(lABC), lO, lABC))
	return append(all, t)
}

func changed(t api.Type) []api.Type {
	var all []api.Type
	for label := none; label < 8; label++ {
		u := t
		if u.Label = label; label != none {
			all = append(all, u)
		}
		if t.Kind != api.Fun {
			continue
		}
		u = t
		if u.Heap = label; label != none {
			all = append(all, u)
		}
		u = t
		u.Exc = label
		all = append(all, u)
	}
	for i, part := range t.Parts {
		for _, other := range changed(part) {
			u := t
			u.Parts = slices.Clone(t.Parts)
			u.Parts[i] = other
			all = append(all, u)
		}
	}
	return all
}

// makes holds what the node makes, raised, against a type: it goes into slots of just those types that are above it. AT and X behind the node are just k.
func (p probe) makes(t *testing.T, name string, want api.Type, k int) {
	t.Helper()
	r := reference{l: sets()}
	for _, dst := range variants(want) {
		if got := isRight(t, name, sets(), p.fn(dst, lABC, lABC)); got != r.below(want, dst) {
			t.Errorf("%s: into %v: %v", name, dst, got)
		}
	}
	p.leaves(t, name, want, k, k)
}

// leaves holds AT and X behind the node against these.
func (p probe) leaves(t *testing.T, name string, dst api.Type, at, x int) {
	t.Helper()
	r := reference{l: sets()}
	for label := range 8 {
		if got := isRight(t, name, sets(), p.fn(dst, label, lABC)); got != (at == none || r.leq(at, label)) {
			t.Errorf("%s: AT below %d: %v", name, label, got)
		}
		if got := isRight(t, name, sets(), p.fn(dst, lABC, label)); got != (x == none || r.leq(x, label)) {
			t.Errorf("%s: X below %d: %v", name, label, got)
		}
	}
	if got := isRight(t, name, sets(), p.fn(dst, lABC, none)); got != (x == none) {
		t.Errorf("%s: X is None: %v", name, got)
	}
}

func typesOf(all ...api.Type) []api.Type {
	return all
}

// TestWhatIsMade (P10.2): the type that each Op makes of what it reads, raised by Env.
func TestWhatIsMade(t *testing.T) {
	inner := pair(lC, integer(lO), fun(lO, boolean(lA), integer(lO), lAB, lC))
	for i, c := range []struct {
		in   []api.Type
		node ir.Node
		want api.Type
	}{
		{nil, ir.Node{Op: 1, N: 5, Env: lO}, integer(lO)},
		{nil, ir.Node{Op: 1, N: -5, Env: lAB}, integer(lAB)},
		{nil, ir.Node{Op: 2, N: 1, Env: lO}, boolean(lO)},
		{nil, ir.Node{Op: 2, Env: lC}, boolean(lC)},
		{typesOf(integer(lA)), ir.Node{Op: 3, A: 1, Env: lB}, integer(lAB)},
		{typesOf(inner), ir.Node{Op: 3, A: 1, Env: lB}, pair(lBC, inner.Parts[0], inner.Parts[1])},
		{typesOf(fun(lB, integer(lA), integer(lO), lC, none)), ir.Node{Op: 3, A: 1, Env: lA}, fun(lAB, integer(lA), integer(lO), lC, none)},
		{typesOf(ref(lA, inner)), ir.Node{Op: 3, A: 1, Env: lO}, ref(lA, inner)},
		{typesOf(boolean(lA)), ir.Node{Op: 5, A: 1, Env: lO}, boolean(lA)},
		{typesOf(boolean(lA)), ir.Node{Op: 5, A: 1, Env: lB}, boolean(lAB)},
		{typesOf(integer(lA), boolean(lB)), ir.Node{Op: 6, A: 1, B: 2, Env: lO}, pair(lO, integer(lA), boolean(lB))},
		{typesOf(integer(lA), boolean(lB)), ir.Node{Op: 6, A: 2, B: 1, Env: lC}, pair(lC, boolean(lBC), integer(lAC))},
		{typesOf(inner), ir.Node{Op: 6, A: 1, B: 1, Env: lO}, pair(lO, inner, inner)},
		{typesOf(pair(lA, integer(lB), boolean(lC))), ir.Node{Op: 7, A: 1, Env: lO}, integer(lAB)},
		{typesOf(pair(lA, integer(lB), boolean(lC))), ir.Node{Op: 8, A: 1, Env: lO}, boolean(lAC)},
		{typesOf(pair(lO, integer(lB), boolean(lC))), ir.Node{Op: 7, A: 1, Env: lA}, integer(lAB)},
		{typesOf(pair(lO, integer(lB), boolean(lC))), ir.Node{Op: 8, A: 1, Env: lA}, boolean(lAC)},
		{typesOf(pair(lA, inner, ref(lO, inner))), ir.Node{Op: 7, A: 1, Env: lO}, pair(lAC, inner.Parts[0], inner.Parts[1])},
		{typesOf(pair(lA, inner, ref(lO, inner))), ir.Node{Op: 8, A: 1, Env: lB}, ref(lAB, inner)},
		{typesOf(integer(lA)), ir.Node{Op: 12, A: 1, T: integer(lA), Env: lO}, ref(lO, integer(lA))},
		{typesOf(integer(lA)), ir.Node{Op: 12, A: 1, T: integer(lABC), Env: lC}, ref(lC, integer(lABC))},
		{typesOf(inner), ir.Node{Op: 12, A: 1, T: inner, Env: lO}, ref(lO, inner)},
		{typesOf(ref(lA, integer(lB))), ir.Node{Op: 13, A: 1, Env: lO}, integer(lAB)},
		{typesOf(ref(lO, integer(lB))), ir.Node{Op: 13, A: 1, Env: lC}, integer(lBC)},
		{typesOf(ref(lO, inner)), ir.Node{Op: 13, A: 1, Env: lA}, pair(lAC, inner.Parts[0], inner.Parts[1])},
	} {
		probe{lO, c.in, c.node}.makes(t, strconv.Itoa(i)+": Op "+strconv.Itoa(c.node.Op), c.want, none)
	}
}

// TestReckoning (P10.2): the join of both Labels and Env; of OpDiv and OpMod the second one's Label, raised by Env, is K.
func TestReckoning(t *testing.T) {
	r := reference{l: sets()}
	for n := int64(api.OpAdd); n <= api.OpSame; n++ {
		for _, in := range [][2]int{{lO, lO}, {lA, lO}, {lO, lA}, {lA, lB}, {lB, lA}, {lAB, lC}} {
			for _, env := range []int{lO, lC, lAC} {
				want, k := integer(r.join(in[0], in[1], env)), none
				if n == api.OpLess || n == api.OpSame {
					want.Kind = api.Bool
				}
				if n == api.OpDiv || n == api.OpMod {
					k = r.join(in[1], env)
				}
				p := probe{lO, typesOf(integer(in[0]), integer(in[1])), ir.Node{Op: 4, A: 1, B: 2, N: n, Env: env}}
				p.makes(t, "reckoned by "+strconv.FormatInt(n, 10), want, k)
			}
		}
	}
	p := probe{lO, typesOf(integer(lB)), ir.Node{Op: 4, A: 0, B: 1, N: api.OpDiv, Env: lO}}
	p.makes(t, "by b", integer(lB), lB)
	p.node.A, p.node.B = 1, 0
	p.makes(t, "by o", integer(lB), lO)
}

// TestBothOperands (P10.2): a wrong one of two, whichever it is.
func TestBothOperands(t *testing.T) {
	for n := int64(api.OpAdd); n <= api.OpSame; n++ {
		for _, other := range typesOf(boolean(lO), pair(lO, integer(lO), integer(lO)), ref(lO, integer(lO)), fun(lO, integer(lO), integer(lO), lO, none)) {
			for _, slots := range [][2]int{{0, 1}, {1, 0}, {1, 1}} {
				p := probe{lO, typesOf(other), ir.Node{Op: 4, A: slots[0], B: slots[1], N: n, Env: lO}}
				for _, dst := range typesOf(integer(lABC), boolean(lABC)) {
					if isRight(t, "reckoned", sets(), p.fn(dst, lABC, lABC)) {
						t.Errorf("%d reckons %v, %v", n, slots, other)
					}
				}
			}
		}
	}
}

// TestTooGreat (P10.2): what is made is a formed type: a Pair, a Ref of types that are as deep or as great as may be is none.
func TestTooGreat(t *testing.T) {
	deep, great := refs(6), tree(5)
	less := refs(5)
	for _, c := range []struct {
		in   []api.Type
		node ir.Node
		dst  api.Type
	}{
		{typesOf(deep), ir.Node{Op: 6, A: 1, B: 0}, pair(0, less, integer(0))},
		{typesOf(great, great), ir.Node{Op: 6, A: 1, B: 2}, pair(0, integer(0), integer(0))},
		{typesOf(deep), ir.Node{Op: 12, A: 1, T: deep}, ref(0, less)},
	} {
		p := probe{0, c.in, c.node}
		f := p.fn(c.dst, 0, 0)
		f.Param, f.Result, f.Slots[0] = integer(0), integer(0), integer(0)
		if isRight(t, "too great", chain(), f) {
			t.Errorf("Op %d makes a type that is too great", c.node.Op)
		}
	}
	p := probe{0, typesOf(less), ir.Node{Op: 12, A: 1, T: less}}
	f := p.fn(deep, 0, 0)
	f.Param, f.Result, f.Slots[0] = integer(0), integer(0), integer(0)
	if !isRight(t, "as great as may be", chain(), f) {
		t.Error("a Ref of a type that is 5 deep")
	}
}

// TestNew (P10.2): A, raised by Env, is below T, and the Ref is of T.
func TestNew(t *testing.T) {
	r := reference{l: sets()}
	for _, in := range typesOf(integer(lA), pair(lA, integer(lO), boolean(lB)), ref(lA, integer(lB)), fun(lA, integer(lB), integer(lB), lB, lB)) {
		for _, env := range []int{lO, lB} {
			for _, holds := range variants(in) {
				p := probe{lO, typesOf(in), ir.Node{Op: 12, A: 1, T: holds, Env: env}}
				if got := isRight(t, "new", sets(), p.fn(ref(env, holds), lABC, none)); got != r.below(r.raised(in, env), holds) {
					t.Errorf("%v in a cell of %v, Env %d: %v", in, holds, env, got)
				}
			}
		}
	}
}

// TestSet (P10.2): B, raised by Env, is below what A holds; the Ref's Label, raised by Env, and Heap are below its Label. There is no K, and no Dst.
func TestSet(t *testing.T) {
	r := reference{l: sets()}
	for _, c := range []struct{ ref, holds, part, env, heap int }{
		{lO, lO, lO, lO, lO}, {lA, lA, lO, lO, lO}, {lA, lB, lO, lO, lO}, {lO, lA, lA, lO, lO}, {lO, lA, lB, lO, lO}, {lO, lA, lO, lA, lO}, {lO, lA, lO, lB, lO}, {lO, lA, lO, lO, lA}, {lO, lA, lO, lO, lB},
		{lA, lABC, lB, lC, lBC}, {lA, lAB, lB, lO, lC}, {lA, lAB, lA, lB, lB}, {lA, lAB, lC, lB, lB}, {lC, lAB, lA, lB, lB},
	} {
		p := probe{c.heap, typesOf(ref(c.ref, integer(c.holds)), integer(c.part)), ir.Node{Op: 14, A: 1, B: 2, Env: c.env}}
		want := r.leq(c.part, c.holds) && r.leq(c.env, c.holds) && r.leq(c.ref, c.holds) && r.leq(c.heap, c.holds)
		if got := isRight(t, "set", sets(), p.fn(boolean(lO), lABC, lABC)); got != want {
			t.Errorf("%+v: %v", c, got)
		}
		if want {
			p.leaves(t, "set", boolean(lO), none, none)
		}
	}
	holds := pair(lAB, integer(lB), boolean(lO))
	for _, part := range variants(holds) {
		p := probe{lO, typesOf(ref(lO, holds), part), ir.Node{Op: 14, A: 1, B: 2, Env: lO}}
		if got := isRight(t, "set", sets(), p.fn(boolean(lO), lO, none)); got != r.below(part, holds) {
			t.Errorf("%v: %v", part, got)
		}
	}
}

// TestOut (P10.2): the Int's Label, raised by Env, and Heap are below N.
func TestOut(t *testing.T) {
	r := reference{l: sets()}
	for label := range 8 {
		for env := range 8 {
			for heap := range 8 {
				for n := range 8 {
					p := probe{heap, typesOf(integer(label)), ir.Node{Op: 15, A: 1, N: int64(n), Env: env}}
					if got := isRight(t, "out", sets(), p.fn(boolean(lO), lABC, none)); got != (r.leq(label, n) && r.leq(env, n) && r.leq(heap, n)) {
						t.Errorf("%d on %d, Env %d, Heap %d: %v", label, n, env, heap, got)
					}
				}
			}
		}
	}
	probe{lA, typesOf(integer(lB)), ir.Node{Op: 15, A: 1, N: lABC, Env: lC}}.leaves(t, "out", boolean(lO), none, none)
}

// TestCall (P10.2): what a call gives, and its K.
func TestCall(t *testing.T) {
	gives := pair(lO, integer(lC), boolean(lO))
	for i, c := range []struct {
		heap int
		fun  api.Type
		env  int
		want api.Type
		k    int
	}{
		{lO, fun(lO, integer(lA), integer(lO), lO, none), lO, integer(lO), none},
		{lO, fun(lO, integer(lA), integer(lB), lO, none), lO, integer(lB), none},
		{lO, fun(lA, integer(lA), integer(lB), lA, none), lO, integer(lAB), none},
		{lA, fun(lO, integer(lA), integer(lB), lA, none), lO, integer(lB), none},
		{lB, fun(lA, integer(lA), integer(lO), lAB, none), lO, integer(lA), none},
		{lO, fun(lO, integer(lA), integer(lB), lABC, none), lA, integer(lAB), none},
		{lO, fun(lO, integer(lA), integer(lO), lO, lO), lO, integer(lO), lO},
		{lO, fun(lO, integer(lA), integer(lO), lO, lB), lO, integer(lB), lB},
		{lO, fun(lA, integer(lA), integer(lO), lA, lB), lO, integer(lAB), lAB},
		{lO, fun(lA, integer(lA), integer(lC), lA, lO), lO, integer(lAC), lA},
		{lO, fun(lC, integer(lA), integer(lO), lABC, lB), lA, integer(lABC), lABC},
		{lO, fun(lO, integer(lA), integer(lO), lABC, lB), lA, integer(lAB), lAB},
		{lO, fun(lA, integer(lA), gives, lA, none), lO, pair(lA, integer(lC), boolean(lO)), none},
		{lO, fun(lA, integer(lA), gives, lAB, lB), lO, pair(lAB, integer(lC), boolean(lO)), lAB},
		{lO, fun(lO, integer(lA), fun(lA, gives, gives, lB, lC), lO, lB), lO, fun(lAB, gives, gives, lB, lC), lB},
	} {
		p := probe{c.heap, typesOf(c.fun), ir.Node{Op: 11, A: 1, B: 0, Env: c.env}}
		p.makes(t, strconv.Itoa(i)+": a call", c.want, c.k)
	}
}

// TestCallBounds (P10.2): L and Heap are below the Fun's Heap, each by itself, and B, raised by Env, below what it takes.
func TestCallBounds(t *testing.T) {
	r := reference{l: sets()}
	for label := range 8 {
		for bound := range 8 {
			for _, exc := range []int{none, lO, lC} {
				for _, at := range [][2]int{{lO, lO}, {lA, lO}, {lO, lB}, {lC, lA}} {
					heap, env := at[0], at[1]
					p := probe{heap, typesOf(fun(label, integer(lABC), integer(lO), bound, exc)), ir.Node{Op: 11, A: 1, B: 0, Env: env}}
					want := r.leq(label, bound) && r.leq(env, bound) && r.leq(heap, bound)
					if got := isRight(t, "a call", sets(), p.fn(integer(lABC), lABC, lABC)); got != want {
						t.Errorf("label %d, Heap %d, Exc %d, at Env %d, Heap %d: %v", label, bound, exc, env, heap, got)
					}
				}
			}
		}
	}
	takes := pair(lA, integer(lB), ref(lO, integer(lA)))
	for _, arg := range variants(takes) {
		for _, env := range []int{lO, lA, lB} {
			p := probe{lO, typesOf(fun(lO, takes, integer(lO), lABC, none), arg), ir.Node{Op: 11, A: 1, B: 2, Env: env}}
			if got := isRight(t, "a call", sets(), p.fn(integer(lABC), lABC, none)); got != r.below(r.raised(arg, env), takes) {
				t.Errorf("%v given, Env %d: %v", arg, env, got)
			}
		}
	}
}

// TestSelf (P10.2): the function's own Fun, raised by Env.
func TestSelf(t *testing.T) {
	r := reference{l: sets()}
	for _, c := range []struct{ env, heap, exc int }{{lO, lO, none}, {lA, lB, lC}, {lB, lAC, none}, {lABC, lABC, lABC}} {
		want := fun(c.env, integer(lO), integer(lAB), c.heap, c.exc)
		for _, dst := range variants(want) {
			p := probe{c.heap, typesOf(boolean(lA)), ir.Node{Op: 10, Env: c.env}}
			if got := isRight(t, "self", sets(), p.fn(dst, lAB, c.exc)); got != r.below(want, dst) {
				t.Errorf("%v into %v: %v", want, dst, got)
			}
		}
	}
}

// TestClose (P10.2): the Fun of the function N, of as many Args as that has Caps, each, raised by Env, below its.
func TestClose(t *testing.T) {
	r := reference{l: sets()}
	other := ir.Fn{Param: boolean(lA), Result: integer(lAB), Caps: typesOf(integer(lA), boolean(lB)), Heap: lC, Exc: lBC, Slots: typesOf(boolean(lA), integer(lA), boolean(lB)), Out: 1}
	check := func(p probe, dst api.Type) bool {
		t.Helper()
		k, e := ir.Check(sets(), []ir.Fn{p.fn(dst, lABC, none), other})
		if k != 0 || e != api.OK && e != api.ErrVerify {
			t.Fatal(k, e)
		}
		return e == api.OK
	}
	for _, env := range []int{lO, lC} {
		want := fun(env, boolean(lA), integer(lAB), lC, lBC)
		for _, dst := range variants(want) {
			wider := other
			wider.Caps = typesOf(integer(lABC), boolean(lABC))
			wider.Slots = typesOf(boolean(lA), integer(lABC), boolean(lABC))
			wider.Out = 0
			p := probe{lO, typesOf(integer(lA), boolean(lB)), ir.Node{Op: 9, N: 1, Args: []int{1, 2}, Env: env}}
			k, e := ir.Check(sets(), []ir.Fn{p.fn(dst, lABC, none), wider})
			// The other one gives a Bool where it has an Int to give: it is shaped, and that is all that is asked of it here.
			if right := r.below(want, dst); right != (k == 1) || e != api.ErrVerify {
				t.Errorf("into %v: %d, error %d", dst, k, e)
			}
		}
	}
	dst := fun(lABC, boolean(lA), integer(lAB), lC, lBC)
	for _, c := range []struct {
		args []int
		env  int
		want bool
	}{
		{[]int{1, 2}, lO, true}, {[]int{0, 2}, lO, true}, {[]int{3, 2}, lO, false}, {[]int{1, 4}, lO, false}, {[]int{2, 1}, lO, false}, {[]int{1}, lO, false}, {nil, lO, false}, {[]int{1, 2, 2}, lO, false}, {[]int{1, 2, 0}, lO, false},
		{[]int{1, 2}, lA, false}, {[]int{1, 2}, lB, false}, {[]int{1, 2}, lC, false}, {[]int{1, 2, 1, 2, 1, 2, 1, 2, 1, 2, 1, 2, 1, 2, 1, 2, 1}, lO, false},
	} {
		p := probe{lO, typesOf(integer(lA), boolean(lB), integer(lC), boolean(lC)), ir.Node{Op: 9, N: 1, Args: c.args, Env: c.env}}
		if got := check(p, dst); got != c.want {
			t.Errorf("Args %v, Env %d: %v", c.args, c.env, got)
		}
	}
}

// TestCloseFull (P10.2): MaxCaps Args, each of which is asked; and none of a function without Caps.
func TestCloseFull(t *testing.T) {
	low, high := integer(0), integer(1)
	f := ir.Fn{Param: low, Result: low, Exc: none, Caps: slices.Repeat(typesOf(low), 16), Slots: append(slices.Repeat(typesOf(low), 17), fun(0, low, low, 0, none), high)}
	args := make([]int, 16)
	for i := range args {
		args[i] = i + 1
	}
	f.Body = listOf(ir.Node{Op: 1, Dst: 18}, ir.Node{Op: 9, Dst: 17, Args: args})
	answers(t, "16 Args", chain(), []ir.Fn{f}, 0, api.OK)
	for i := range args {
		wrong := slices.Clone(args)
		wrong[i] = 18
		f.Body[1].Args = wrong
		answers(t, "an Arg isn't below its", chain(), []ir.Fn{f}, 0, api.ErrVerify)
	}
	f.Body[1].Args = args[:15]
	answers(t, "15 Args", chain(), []ir.Fn{f}, 0, api.ErrVerify)
	g := ir.Fn{Param: low, Result: low, Exc: none, Slots: typesOf(low, fun(0, low, low, 0, none)), Body: listOf(ir.Node{Op: 9, Dst: 1})}
	answers(t, "no Args", chain(), []ir.Fn{g}, 0, api.OK)
	g.Body[0].Args = []int{0}
	answers(t, "one Arg", chain(), []ir.Fn{g}, 0, api.ErrVerify)
}
