package ir_test

import (
	"math/rand"
	"slices"
	"testing"

	"palisade/api"
	"palisade/ir"
)

// drawer draws functions that are mostly right: it goes by the reference's state, and one of so many things is odd.
type drawer struct {
	*rand.Rand
	r    reference
	odd  int
	left int
}

func (d *drawer) label() int {
	return d.Intn(len(d.r.l.Names))
}

// lowish is mostly the bottom, highish often the top.
func (d *drawer) lowish() int {
	if d.Intn(3) > 0 {
		return d.r.bottom()
	}
	return d.label()
}

func (d *drawer) highish() int {
	if d.Intn(2) == 0 {
		return d.label()
	}
	top := none
	for a := range d.r.l.Names {
		top = d.r.join(top, a)
	}
	return top
}

func (d *drawer) exc() int {
	if d.Intn(3) == 0 {
		return none
	}
	return d.highish()
}

// typ is a type of low labels, so deep at most.
func (d *drawer) typ(deep int) api.Type {
	kind := d.Intn(8)
	switch {
	case deep <= 1 && kind < 5 || kind < 2:
		return integer(d.lowish())
	case deep <= 1 || kind < 4:
		return boolean(d.lowish())
	case kind == 4:
		return pair(d.lowish(), d.typ(deep-1), d.typ(deep-1))
	case kind == 5:
		return ref(d.lowish(), d.higher(d.typ(deep-1)))
	}
	return fun(d.lowish(), d.higher(d.typ(deep-1)), d.typ(deep-1), d.highish(), d.exc())
}

// higher is a type of t's shape with labels that are often high, so that much goes into it.
func (d *drawer) higher(t api.Type) api.Type {
	t.Label = d.r.join(t.Label, d.highish())
	if t.Kind == api.Pair {
		t.Parts = typesOf(d.higher(t.Parts[0]), d.higher(t.Parts[1]))
	}
	return t
}

// drawnFns are functions, all shaped, each of which is right or has some few things wrong.
func drawnFns(draw *rand.Rand) (api.Lattice, []ir.Fn) {
	all := lattices()
	d := &drawer{Rand: draw, r: reference{l: all[draw.Intn(len(all))]}, odd: 4 << draw.Intn(7)}
	for range 1 + d.Intn(3) {
		f := ir.Fn{Param: d.typ(2), Heap: d.lowish(), Exc: d.exc()}
		if d.Intn(4) == 0 {
			f.Heap = d.label()
		}
		f.Result = d.higher(d.typ(1 + d.Intn(2)))
		for range d.Intn(4) {
			f.Caps = append(f.Caps, d.typ(3))
		}
		f.Slots = append([]api.Type{f.Param}, f.Caps...)
		d.r.fns = append(d.r.fns, f)
	}
	for k := range d.r.fns {
		d.left = 16
		d.r.own = d.r.fns[k]
		body, end := d.list(d.r.begin(), 4)
		d.r.own.Body = body
		d.end(end)
		d.r.fns[k] = d.r.own
	}
	if d.Intn(3) == 0 {
		d.turn(&d.r.fns[d.Intn(len(d.r.fns))])
	}
	return d.r.l, d.r.fns
}

// end chooses OUT, and Exc by what is raised.
func (d *drawer) end(s known) {
	f := &d.r.own
	if d.Intn(d.odd) > 0 {
		f.Exc = d.r.join(s.x, f.Exc)
	}
	if f.Out = none; s.over != (d.Intn(d.odd) == 0) {
		return
	}
	if d.Intn(d.odd) == 0 {
		f.Out = d.Intn(len(f.Slots))
		return
	}
	for _, slot := range d.Perm(len(f.Slots)) {
		if s.set[slot] && d.r.below(d.r.raised(f.Slots[slot], s.at), f.Result) {
			f.Out = slot
			return
		}
	}
	if f.Result.Kind > api.Bool {
		f.Result = integer(s.at)
	}
	f.Out = len(f.Slots)
	f.Slots = append(f.Slots, f.Result)
	f.Body = append(f.Body, ir.Node{Op: f.Result.Kind, Dst: f.Out, Env: s.at})
}

func (d *drawer) list(s known, deep int) ([]ir.Node, known) {
	var body []ir.Node
	for range d.Intn(6) {
		if d.left == 0 || s.over && d.Intn(d.odd) > 0 {
			break
		}
		d.left--
		n, ok := d.node(s, deep)
		if !ok {
			continue
		}
		next, why := d.stepped(n, s)
		if why != "" && !d.taken(why) {
			continue
		}
		body = append(body, n)
		if why == "" {
			s = next
		} else if fieldsOf[n.Op][0] == 'd' && n.Op != 17 {
			s = s.copied()
			s.set[n.Dst] = true
		}
	}
	return body, s
}

// stepped is the state behind a node, or why that isn't right.
func (d *drawer) stepped(n ir.Node, s known) (next known, why reason) {
	defer func() {
		if up := recover(); up != nil {
			next, why = s, up.(reason)
		}
	}()
	return d.r.step(n, s.copied()), ""
}

// taken tells whether a node that isn't right is left in, of those that are drawn seldom more often.
func (d *drawer) taken(why reason) bool {
	switch why {
	case "another Kind", "what is made isn't below Dst's type", "a slot isn't set", "B isn't below what A takes", "an Arg isn't below its":
		return d.Intn(2*d.odd) == 0
	case atAboveEnv:
		return d.Intn(20) == 0
	}
	return d.Intn(3) == 0
}

// node is one for that state, and whether it can be shaped.
func (d *drawer) node(s known, deep int) (ir.Node, bool) {
	n := ir.Node{Op: 1 + d.Intn(18), Env: s.at}
	if n.Op == 18 && d.Intn(2) == 0 || d.Intn(8) == 0 {
		n.Op = 16 + d.Intn(2)
	}
	if d.Intn(4) == 0 {
		n.Env = d.r.join(s.at, d.lowish())
	}
	if d.Intn(8) == 0 {
		n.Env = d.label()
	}
	kinds := [19][2]int{4: {api.Int, api.Int}, 5: {api.Bool}, 7: {api.Pair}, 8: {api.Pair}, 11: {api.Fun}, 13: {api.Ref}, 14: {api.Ref}, 15: {api.Int}, 16: {api.Bool}, 18: {api.Int}}
	n.A = d.slot(s, func(t api.Type) bool { return kinds[n.Op][0] == 0 || t.Kind == kinds[n.Op][0] })
	n.B = d.slot(s, func(t api.Type) bool { return kinds[n.Op][1] == 0 || t.Kind == kinds[n.Op][1] })
	switch a := d.r.own.Slots[n.A]; n.Op {
	case 1, 2:
		n.N = int64(d.Intn(2))
	case 4:
		n.N = int64(api.OpAdd + d.Intn(7))
	case 9:
		n.N = int64(d.Intn(len(d.r.fns)))
		for _, c := range d.r.fns[n.N].Caps {
			n.Args = append(n.Args, d.slot(s, func(t api.Type) bool { return d.r.below(d.r.raised(t, n.Env), c) }))
		}
	case 11:
		if a.Kind == api.Fun {
			n.B = d.slot(s, func(t api.Type) bool { return d.r.below(d.r.raised(t, n.Env), a.Parts[0]) })
		}
	case 14:
		if a.Kind == api.Ref {
			n.B = d.slot(s, func(t api.Type) bool { return d.r.below(d.r.raised(t, n.Env), a.Parts[0]) })
		}
	case 12:
		n.T = d.higher(a)
	case 15:
		n.N = int64(d.highish())
	case 16, 17:
		return d.branch(n, s, deep)
	}
	return d.placed(n, s)
}

// slot is a slot that is set and such, if there is one, or now and then any.
func (d *drawer) slot(s known, such func(t api.Type) bool) int {
	if d.Intn(d.odd) == 0 {
		return d.Intn(len(d.r.own.Slots))
	}
	for _, slot := range d.Perm(len(d.r.own.Slots)) {
		if s.set[slot] && such(d.r.own.Slots[slot]) {
			return slot
		}
	}
	return d.Intn(len(d.r.own.Slots))
}

// placed has as Dst a slot for what it makes, a new one or one that there is.
func (d *drawer) placed(n ir.Node, s known) (placed ir.Node, ok bool) {
	if fieldsOf[n.Op][0] != 'd' {
		return n, true
	}
	defer func() {
		if up := recover(); up != nil {
			_ = up.(reason)
			n.Dst = d.Intn(len(d.r.own.Slots))
			placed, ok = n, true
		}
	}()
	t, k := d.r.makes(n, func(slot, kind int) api.Type {
		u := d.r.raised(d.r.own.Slots[slot], n.Env)
		d.r.ask(kind == 0 || u.Kind == kind, "another Kind")
		return u
	})
	n.Dst = d.home(d.r.raised(t, d.r.join(n.Env, k)))
	return n, n.Dst != none
}

// home is a slot whose type is mostly above t, or None, if t is too great.
func (d *drawer) home(t api.Type) int {
	if d.Intn(3) == 0 {
		for _, slot := range d.Perm(len(d.r.own.Slots)) {
			if d.r.below(t, d.r.own.Slots[slot]) {
				return slot
			}
		}
	}
	if n, deep := refNodes(t); n > 40 || deep > 6 {
		return none
	}
	if d.Intn(4) == 0 {
		t = d.higher(t)
	}
	if d.Intn(d.odd) == 0 {
		t.Label = d.label()
	}
	d.r.own.Slots = append(d.r.own.Slots, t)
	return len(d.r.own.Slots) - 1
}

// branch draws a node's Body and Else.
func (d *drawer) branch(n ir.Node, s known, deep int) (ir.Node, bool) {
	if deep == 0 {
		return n, false
	}
	if n.Op == 16 {
		in := s.copied()
		in.at, in.x, in.over = d.r.join(s.at, d.r.own.Slots[n.A].Label, n.Env), none, false
		n.Body, _ = d.list(in.copied(), deep-1)
		n.Else, _ = d.list(in.copied(), deep-1)
		return n, true
	}
	in := s.copied()
	in.x, in.over = none, false
	var tried known
	n.Body, tried = d.list(in.copied(), deep-1)
	in.at = d.r.join(s.at, tried.x)
	n.Dst = d.home(integer(in.at))
	in.set[n.Dst] = true
	n.Else, _ = d.list(in, deep-1)
	return n, true
}

// turn changes one thing of a function, which stays shaped.
func (d *drawer) turn(f *ir.Fn) {
	nodes := places(f.Body)
	if len(nodes) > 0 && d.Intn(3) > 0 {
		d.turnNode(nodes[d.Intn(len(nodes))], len(f.Slots))
		return
	}
	switch d.Intn(6) {
	case 0:
		f.Heap = d.label()
	case 1:
		f.Exc = d.Intn(len(d.r.l.Names)+1) - 1
	case 2:
		f.Out = d.Intn(len(f.Slots)+1) - 1
	case 3:
		f.Result.Label = d.label()
	case 4:
		if slot := d.Intn(len(f.Slots)); slot > len(f.Caps) {
			f.Slots[slot].Label = d.label()
		}
	case 5:
		if len(f.Body) > 0 {
			i := d.Intn(len(f.Body))
			f.Body = slices.Delete(f.Body, i, i+1)
		}
	}
}

func (d *drawer) turnNode(n *ir.Node, slots int) {
	switch d.Intn(6) {
	case 0:
		n.Env = d.label()
	case 1:
		n.A = d.Intn(slots)
	case 2:
		n.B = d.Intn(slots)
	case 3:
		n.Dst = d.Intn(slots)
	case 4:
		if n.Op == 15 {
			n.N = int64(d.label())
		}
		if n.Op == 12 {
			n.T.Label = d.label()
		}
		n.Body, n.Else = n.Else, n.Body
	case 5:
		n.Else = nil
		n.Args = n.Args[:d.Intn(len(n.Args)+1)]
	}
}

// places are where all nodes stand.
func places(body []ir.Node) []*ir.Node {
	var all []*ir.Node
	for i := range body {
		all = append(append(append(all, &body[i]), places(body[i].Body)...), places(body[i].Else)...)
	}
	return all
}

// TestDrawn (P10.2): drawn functions, against the reference: the first one that isn't right is told.
func TestDrawn(t *testing.T) {
	draw := rand.New(rand.NewSource(1))
	told := map[api.Errno]int{}
	why := map[reason]int{}
	met, deep := [19]int{}, 0
	for range 25_000 {
		l, fns := drawnFns(draw)
		r := reference{l: l, fns: fns}
		k, e := ir.Check(l, fns)
		want, err := r.check()
		if k != want || e != err || !ir.Shaped(l, fns) {
			t.Fatalf("%+v\n%+v: %d, error %d; want %d, error %d, as %s", l, fns, k, e, want, err, r.wrong(want))
		}
		told[e]++
		if e != api.OK {
			why[r.wrong(k)]++
			continue
		}
		for _, f := range fns {
			for _, n := range places(f.Body) {
				met[n.Op]++
			}
			if _, d := plainCount(f.Body); d > 2 {
				deep++
			}
		}
	}
	if told[api.OK] < 6000 || told[api.ErrVerify] < 6000 || len(why) < 20 || deep < 500 {
		t.Error(told, why, deep)
	}
	for op := 1; op <= 18; op++ {
		if met[op] < 200 {
			t.Errorf("Op %d was right %d times", op, met[op])
		}
	}
}
