package ir_test

import (
	"palisade/api"
	"palisade/ir"
)

// The reference below is written from the chapter's words, with the orders of labels and types of its own. What isn't right goes up by a panic, with its reason.

type reason string

const atAboveEnv reason = "AT isn't below Env"

type reference struct {
	l   api.Lattice
	fns []ir.Fn
	own ir.Fn
}

// known is AT, X, and which slots are set; over: what comes behind isn't come to.
type known struct {
	at, x int
	set   map[int]bool
	over  bool
}

func (r reference) ask(holds bool, why reason) {
	if !holds {
		panic(why)
	}
}

func (r reference) leq(a, b int) bool {
	return a >= 0 && b >= 0 && r.l.Order[a][b]
}

// join is the label above all these that is below all such; None counts for nothing.
func (r reference) join(labels ...int) int {
	above := func(b int) bool {
		for _, a := range labels {
			if a != none && !r.leq(a, b) {
				return false
			}
		}
		return true
	}
	all := true
	for _, a := range labels {
		all = all && a == none
	}
	if all {
		return none
	}
	for b := range r.l.Names {
		least := above(b)
		for d := range r.l.Names {
			least = least && (!above(d) || r.leq(b, d))
		}
		if least {
			return b
		}
	}
	panic("no join")
}

func (r reference) bottom() int {
	for b := range r.l.Names {
		all := true
		for a := range r.l.Names {
			all = all && r.leq(b, a)
		}
		if all {
			return b
		}
	}
	panic("no bottom")
}

func refNodes(t api.Type) (nodes, deep int) {
	for _, part := range t.Parts {
		n, d := refNodes(part)
		nodes, deep = nodes+n, max(deep, d)
	}
	return nodes + 1, deep + 1
}

func refSame(s, t api.Type) bool {
	if s.Kind != t.Kind || s.Label != t.Label || s.Heap != t.Heap || s.Exc != t.Exc || len(s.Parts) != len(t.Parts) {
		return false
	}
	for i := range s.Parts {
		if !refSame(s.Parts[i], t.Parts[i]) {
			return false
		}
	}
	return true
}

// below is asked of types that are formed, but for their size.
func (r reference) below(s, t api.Type) bool {
	for _, u := range []api.Type{s, t} {
		if nodes, deep := refNodes(u); nodes > 40 || deep > 6 {
			return false
		}
	}
	return r.lower(s, t)
}

func (r reference) lower(s, t api.Type) bool {
	if s.Kind != t.Kind || !r.leq(s.Label, t.Label) {
		return false
	}
	switch s.Kind {
	case api.Pair:
		return r.lower(s.Parts[0], t.Parts[0]) && r.lower(s.Parts[1], t.Parts[1])
	case api.Fun:
		return r.lower(t.Parts[0], s.Parts[0]) && r.lower(s.Parts[1], t.Parts[1]) && r.leq(t.Heap, s.Heap) && (s.Exc == none || r.leq(s.Exc, t.Exc))
	case api.Ref:
		return refSame(s.Parts[0], t.Parts[0])
	}
	return true
}

func (r reference) raised(t api.Type, label int) api.Type {
	t.Label = r.join(t.Label, label)
	return t
}

func (r reference) sig(f ir.Fn) api.Type {
	return fun(r.bottom(), f.Param, f.Result, f.Heap, f.Exc)
}

// wrong is why the function k isn't right, or nothing.
func (r reference) wrong(k int) (why reason) {
	defer func() {
		if up := recover(); up != nil {
			why = up.(reason)
		}
	}()
	r.own = r.fns[k]
	end := r.through(r.own.Body, r.begin())
	if end.over {
		r.ask(r.own.Out == none, "OUT isn't None")
	} else {
		r.ask(r.own.Out != none, "OUT is None")
		r.ask(end.set[r.own.Out], "OUT isn't set")
		r.ask(r.below(r.raised(r.own.Slots[r.own.Out], end.at), r.own.Result), "OUT isn't below Result")
	}
	r.ask(end.x == none || r.leq(end.x, r.own.Exc), "X isn't below Exc")
	return ""
}

func (r reference) begin() known {
	s := known{at: r.bottom(), x: none, set: map[int]bool{0: true}}
	for i := range r.own.Caps {
		s.set[i+1] = true
	}
	return s
}

// check is what Check answers of shaped functions.
func (r reference) check() (int, api.Errno) {
	for k := range r.fns {
		if r.wrong(k) != "" {
			return k, api.ErrVerify
		}
	}
	return 0, api.OK
}

func (s known) copied() known {
	set := map[int]bool{}
	for slot := range s.set {
		set[slot] = true
	}
	s.set = set
	return s
}

func (r reference) through(body []ir.Node, s known) known {
	for _, n := range body {
		r.ask(!s.over, "a node isn't come to")
		s = r.step(n, s.copied())
	}
	return s
}

func (r reference) step(n ir.Node, s known) known {
	r.ask(r.leq(s.at, n.Env), atAboveEnv)
	read := func(slot, kind int) api.Type {
		r.ask(s.set[slot], "a slot isn't set")
		t := r.raised(r.own.Slots[slot], n.Env)
		r.ask(kind == 0 || t.Kind == kind, "another Kind")
		return t
	}
	switch n.Op {
	case 14:
		t := read(n.A, api.Ref)
		holds := t.Parts[0]
		r.ask(r.below(read(n.B, 0), holds), "B isn't below what A holds")
		r.ask(r.leq(t.Label, holds.Label), "the Ref's Label")
		r.ask(r.leq(r.own.Heap, holds.Label), "Heap")
	case 15:
		t := read(n.A, api.Int)
		r.ask(r.leq(t.Label, int(n.N)), "the Int's Label")
		r.ask(r.leq(r.own.Heap, int(n.N)), "Heap")
	case 16:
		t := read(n.A, api.Bool)
		in := known{at: r.join(s.at, t.Label), x: none, set: s.set}
		yes, no := r.through(n.Body, in.copied()), r.through(n.Else, in.copied())
		return r.behind(s, yes, no, yes.x, no.x)
	case 17:
		tried := r.through(n.Body, known{at: s.at, x: none, set: s.copied().set})
		in := known{at: r.join(s.at, tried.x), x: none, set: s.copied().set}
		r.ask(r.below(integer(in.at), r.own.Slots[n.Dst]), "what is raised isn't below Dst's type")
		in.set[n.Dst] = true
		done := r.through(n.Else, in)
		return r.behind(s, tried, done, done.x)
	case 18:
		s.x = r.join(s.x, read(n.A, api.Int).Label)
		s.over = true
	default:
		t, k := r.makes(n, read)
		r.ask(r.below(r.raised(t, r.join(n.Env, k)), r.own.Slots[n.Dst]), "what is made isn't below Dst's type")
		s.at, s.x = r.join(s.at, k), r.join(s.x, k)
		s.set[n.Dst] = true
	}
	return s
}

func (r reference) behind(s, one, other known, raised ...int) known {
	for _, x := range raised {
		s.at, s.x = r.join(s.at, x), r.join(s.x, x)
	}
	set := map[int]bool{}
	for slot := range r.own.Slots {
		if (one.over || one.set[slot]) && (other.over || other.set[slot]) {
			set[slot] = true
		}
	}
	s.set, s.over = set, one.over && other.over
	return s
}

// makes is what a node of an Op that has a Dst, but 17, makes, not raised yet, and K.
func (r reference) makes(n ir.Node, read func(slot, kind int) api.Type) (api.Type, int) {
	bottom := r.bottom()
	switch n.Op {
	case 1:
		return integer(bottom), none
	case 2:
		return boolean(bottom), none
	case 3:
		return read(n.A, 0), none
	case 4:
		s, t := read(n.A, api.Int), read(n.B, api.Int)
		label := r.join(s.Label, t.Label)
		if n.N == api.OpLess || n.N == api.OpSame {
			return boolean(label), none
		}
		if n.N == api.OpDiv || n.N == api.OpMod {
			return integer(label), t.Label
		}
		return integer(label), none
	case 5:
		return read(n.A, api.Bool), none
	case 6:
		return pair(bottom, read(n.A, 0), read(n.B, 0)), none
	case 7, 8:
		t := read(n.A, api.Pair)
		return r.raised(t.Parts[n.Op-7], t.Label), none
	case 9:
		f := r.fns[n.N]
		r.ask(len(n.Args) == len(f.Caps), "as many Args as Caps")
		for i, slot := range n.Args {
			r.ask(r.below(read(slot, 0), f.Caps[i]), "an Arg isn't below its")
		}
		return r.sig(f), none
	case 10:
		return r.sig(r.own), none
	case 11:
		f := read(n.A, api.Fun)
		r.ask(r.below(read(n.B, 0), f.Parts[0]), "B isn't below what A takes")
		r.ask(r.leq(f.Label, f.Heap), "L isn't below the Fun's Heap")
		r.ask(r.leq(r.own.Heap, f.Heap), "Heap isn't below the Fun's")
		if f.Exc == none {
			return r.raised(f.Parts[1], f.Label), none
		}
		return r.raised(f.Parts[1], f.Label), r.join(f.Exc, f.Label)
	case 12:
		r.ask(r.below(read(n.A, 0), n.T), "A isn't below T")
		return ref(bottom, n.T), none
	case 13:
		t := read(n.A, api.Ref)
		return r.raised(t.Parts[0], t.Label), none
	}
	panic("no Op")
}
