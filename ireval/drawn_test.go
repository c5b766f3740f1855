package ireval_test

import (
	"math/rand"
	"reflect"
	"slices"
	"testing"

	"palisade/api"
	"palisade/ir"
	"palisade/types"
	"palisade/value"
)

func typed(kind int, parts ...api.Type) api.Type {
	return api.Type{Kind: kind, Parts: parts}
}

// drawer draws functions whose nodes read slots of the Kinds that they need, but for one of so many. All labels are low, so that functions are right just if their types are.
type drawer struct {
	*rand.Rand
	fns  []ir.Fn
	own  *ir.Fn
	odd  int
	left int
	from int // which functions' Funs may still be given: what a function captures was drawn when only those behind it were
}

// never is the odd of functions that are to be right.
const never = 1 << 40

func (d *drawer) isOdd() bool {
	return d.Intn(d.odd) == 0
}

// typ is a type so deep at most; it may be that of a function that is drawn already.
func (d *drawer) typ(deep int) api.Type {
	kind := d.Intn(9)
	switch {
	case kind < 3 || deep <= 1 && kind < 7:
		return typed(api.Int)
	case kind < 5 || deep <= 1:
		return typed(api.Bool)
	case kind == 5:
		return typed(api.Pair, d.typ(deep-1), d.typ(deep-1))
	case kind == 6:
		return typed(api.Ref, d.typ(deep-1))
	case len(d.fns) > 0:
		return d.signature(d.Intn(len(d.fns)))
	}
	return typed(api.Int)
}

func (d *drawer) signature(k int) api.Type {
	return ir.Sig(chain(), d.fns[k])
}

// drawnFns are functions, of which number 0 mostly captures nothing.
func drawnFns(draw *rand.Rand, odd int) []ir.Fn {
	d := &drawer{Rand: draw, odd: odd}
	for range d.Intn(4) {
		d.head(d.Intn(4))
	}
	d.head(0)
	if d.isOdd() {
		d.head(1)
	}
	for k := range d.fns {
		d.own, d.left = &d.fns[k], 24
		known := make([]bool, 1+len(d.own.Caps))
		for i := range known {
			known[i] = true
		}
		body, known, over := d.list(known, 3)
		d.own.Body = body
		d.end(known, over)
	}
	return d.fns
}

// head puts a function ahead of those that there are, whose numbers are one greater then.
func (d *drawer) head(caps int) {
	f := ir.Fn{Param: d.typ(2)}
	for range caps {
		f.Caps = append(f.Caps, d.typ(2))
	}
	f.Slots = append([]api.Type{f.Param}, f.Caps...)
	f.Result = f.Slots[d.Intn(len(f.Slots))]
	if d.Intn(2) == 0 {
		f.Result = typed(1 + d.Intn(2))
	}
	if ir.Sig(chain(), f).Kind == 0 {
		f.Param, f.Caps, f.Result = typed(api.Int), nil, typed(api.Int)
		f.Slots = []api.Type{f.Param}
	}
	d.fns = append([]ir.Fn{f}, d.fns...)
}

// end chooses OUT.
func (d *drawer) end(known []bool, over bool) {
	f := d.own
	f.Out = none
	switch {
	case d.isOdd():
		f.Out = d.Intn(len(f.Slots)+1) - 1
	case !over:
		f.Out = d.slot(known, func(t api.Type) bool { return types.Same(t, f.Result) })
		if f.Out == none {
			f.Out = d.newSlot(f.Result)
			f.Body = append(f.Body, ir.Node{Op: f.Result.Kind, Dst: f.Out, N: int64(d.Intn(2))})
		}
	}
}

// list is nodes, which slots are known behind them, and whether they aren't come out of.
func (d *drawer) list(known []bool, deep int) ([]ir.Node, []bool, bool) {
	var body []ir.Node
	for range d.Intn(8) {
		if d.left == 0 {
			break
		}
		d.left--
		n := ir.Node{Op: 1 + d.Intn(18)}
		// A node that can't be drawn there leaves its place to another one.
		if n.Op == 18 && d.Intn(2) == 0 || !d.fill(&n, known) {
			n = ir.Node{Op: 1 + d.Intn(2), N: int64(d.Intn(2))}
			n.Dst = d.home(typed(n.Op))
		}
		over := n.Op == 18
		if n.Op == 16 || n.Op == 17 {
			known, over = d.ways(&n, known, deep)
		} else if n.Op != 14 && n.Op != 15 && n.Op != 18 {
			known = d.with(known, n.Dst)
		}
		body = append(body, n)
		if over {
			return body, known, true
		}
	}
	return body, known, false
}

// with is what is known, and that slot.
func (d *drawer) with(known []bool, slot int) []bool {
	more := make([]bool, len(d.own.Slots))
	copy(more, known)
	more[slot] = true
	return more
}

// slot is one that is known and such, or now and then any; None, if there is none.
func (d *drawer) slot(known []bool, such func(t api.Type) bool) int {
	if d.isOdd() {
		return d.Intn(len(d.own.Slots))
	}
	for _, slot := range d.Perm(len(known)) {
		if known[slot] && such(d.own.Slots[slot]) {
			return slot
		}
	}
	return none
}

// like is such a slot of that type.
func (d *drawer) like(known []bool, t api.Type) int {
	return d.slot(known, func(u api.Type) bool { return types.Same(t, u) })
}

func (d *drawer) newSlot(t api.Type) int {
	d.own.Slots = append(d.own.Slots, t)
	return len(d.own.Slots) - 1
}

// home is a slot of that type: a new one, or one that there is. What isn't formed has none.
func (d *drawer) home(t api.Type) int {
	if !types.Formed(chain(), t) {
		return none
	}
	for _, slot := range d.Perm(len(d.own.Slots)) {
		if d.Intn(4) == 0 && types.Same(t, d.own.Slots[slot]) {
			return slot
		}
	}
	return d.newSlot(t)
}

// kindsOf is which Kinds an Op's A and B have (0: any).
var kindsOf = [19][2]int{4: {api.Int, api.Int}, 5: {api.Bool}, 7: {api.Pair}, 8: {api.Pair}, 11: {api.Fun}, 13: {api.Ref}, 14: {api.Ref}, 15: {api.Int}, 16: {api.Bool}, 18: {api.Int}}

// fill draws the fields of a node but its ways, and tells whether there are such.
func (d *drawer) fill(n *ir.Node, known []bool) bool {
	n.A = d.slot(known, func(t api.Type) bool { return kindsOf[n.Op][0] == 0 || t.Kind == kindsOf[n.Op][0] })
	n.B = d.slot(known, func(t api.Type) bool { return kindsOf[n.Op][1] == 0 || t.Kind == kindsOf[n.Op][1] })
	if n.A == none || n.B == none {
		return false
	}
	a, b := d.own.Slots[n.A], d.own.Slots[n.B]
	// Where something odd was drawn, there may be no such Part.
	part := func(i int) api.Type {
		if i < len(a.Parts) {
			return a.Parts[i]
		}
		return typed(api.Int)
	}
	makes := typed(0)
	switch n.Op {
	case 1, 2, 17:
		n.N, makes = int64(d.Intn(4)), typed(api.Int)
		if n.Op == 2 {
			n.N, makes = int64(d.Intn(2)), typed(api.Bool)
		}
	case 3:
		makes = a
	case 4:
		n.N, makes = int64(api.OpAdd+d.Intn(7)), typed(api.Int)
		if n.N >= api.OpLess {
			makes = typed(api.Bool)
		}
	case 5:
		makes = typed(api.Bool)
	case 6:
		makes = typed(api.Pair, a, b)
	case 7, 8:
		makes = part(n.Op - 7)
	case 9:
		n.N = int64(d.Intn(len(d.fns)))
		makes = d.signature(int(n.N))
		for _, c := range d.fns[n.N].Caps {
			n.Args = append(n.Args, d.like(known, c))
		}
		if d.isOdd() {
			n.Args = append(n.Args, n.A)
		}
	case 10:
		makes = ir.Sig(chain(), *d.own)
	case 11:
		n.B, makes = d.like(known, part(0)), part(1)
	case 12:
		n.T, makes = a, typed(api.Ref, a)
	case 13:
		makes = part(0)
	case 14:
		n.B = d.like(known, part(0))
		return n.B != none
	case 15:
		n.N = int64(d.Intn(2))
		return true
	case 16, 18:
		return true
	}
	if n.B == none || slices.Contains(n.Args, none) {
		return false
	}
	n.Dst = d.home(makes)
	return n.Dst != none
}

// ways draws a node's Body and Else.
func (d *drawer) ways(n *ir.Node, known []bool, deep int) ([]bool, bool) {
	if deep == 0 {
		return known, false
	}
	in := known
	body, first, gone := d.list(in, deep-1)
	if n.Op == 17 {
		in = d.with(in, n.Dst)
	}
	other, second, goneToo := d.list(in, deep-1)
	n.Body, n.Else = body, other
	both := make([]bool, len(d.own.Slots))
	for slot := range both {
		inFirst, inSecond := slot < len(first) && first[slot], slot < len(second) && second[slot]
		both[slot] = (inFirst || gone) && (inSecond || goneToo)
	}
	return both, gone && goneToo
}

// give is a value of that type, mostly, and the cells that it needs behind those that there are.
func (d *drawer) give(t api.Type, heap *[]api.Cell) api.Value {
	if d.isOdd() {
		t = d.typ(2)
	}
	switch t.Kind {
	case api.Pair:
		a := d.give(t.Parts[0], heap)
		return pair(a, d.give(t.Parts[1], heap))
	case api.Ref:
		return d.giveRef(t.Parts[0], heap)
	case api.Fun:
		for _, k := range d.Perm(len(d.fns)) {
			if k >= d.from && types.Same(d.signature(k), t) || d.isOdd() {
				return d.giveFun(k, heap)
			}
		}
	case api.Bool:
		return boolean(int64(d.Intn(2)))
	}
	return integer(int64(d.Intn(5)) - 1)
}

func (d *drawer) giveRef(t api.Type, heap *[]api.Cell) api.Value {
	for _, n := range d.Perm(len(*heap)) {
		if types.Same((*heap)[n].Type, t) || d.isOdd() {
			return ref(int64(n))
		}
	}
	v := d.give(t, heap)
	*heap = append(*heap, api.Cell{Type: t, Value: v})
	return ref(int64(len(*heap) - 1))
}

func (d *drawer) giveFun(k int, heap *[]api.Cell) api.Value {
	v := fun(int64(k))
	defer func(from int) { d.from = from }(d.from)
	d.from = k + 1
	for _, c := range d.fns[k].Caps {
		v.Parts = append(v.Parts, d.give(c, heap))
	}
	if d.isOdd() {
		v.Parts = append(v.Parts, integer(1))
	}
	return v
}

// drawnQuestion is one of drawn functions, with what fits but for the odd.
func drawnQuestion(draw *rand.Rand, odd int) question {
	d := &drawer{Rand: draw, odd: odd, fns: drawnFns(draw, odd)}
	q := question{l: chain(), fns: d.fns, fuel: 300}
	for range d.Intn(3) {
		t := d.typ(2)
		v := d.give(t, &q.heap)
		q.heap = append(q.heap, api.Cell{Type: t, Value: v})
	}
	q.arg = d.give(d.fns[0].Param, &q.heap)
	return q
}

// TestDrawn (P12.1): drawn functions, arguments and cells, against the reference: with fuel that mostly is enough, and with less.
func TestDrawn(t *testing.T) {
	draw := rand.New(rand.NewSource(12))
	ends := map[int]int{}
	met := [19]int{}
	for n := range 30000 {
		q := drawnQuestion(draw, 8<<(n%7))
		if !ir.Shaped(q.l, q.fns) {
			t.Fatalf("not shaped: %+v", q.fns)
		}
		for range 2 {
			got, want := q.run(), q.refer()
			ends[got.Kind]++
			if !alike(got, want) {
				t.Fatalf("%+v:\n%s\nwant\n%s", q, told(got), told(want))
			}
			if got.Kind == api.Returned {
				for _, f := range q.fns {
					meet(f.Body, &met)
				}
			}
			q.fuel = draw.Intn(got.Steps + 1)
		}
	}
	if ends[api.Returned] < 10000 || ends[api.Raised] < 2000 || ends[api.OutOfFuel] < 10000 || ends[api.Stuck] < 2000 {
		t.Error("ends:", ends)
	}
	for op := 1; op <= 18; op++ {
		if met[op] < 2000 {
			t.Errorf("Op %d was in what returned %d times", op, met[op])
		}
	}
}

func meet(body []ir.Node, met *[19]int) {
	for _, n := range body {
		met[n.Op]++
		meet(n.Body, met)
		meet(n.Else, met)
	}
}

// funcs is what functions are to layer 3.
func funcs(fns []ir.Fn) []api.Func {
	var all []api.Func
	for _, f := range fns {
		all = append(all, api.Func{Param: f.Param, Result: f.Result, Caps: f.Caps, Heap: f.Heap, Exc: f.Exc})
	}
	return all
}

// TestNeverStuck (P12.2): functions that are right, with an argument that fits, and cells that do, never get stuck; what they give fits then, and what they raise is an Int.
func TestNeverStuck(t *testing.T) {
	draw := rand.New(rand.NewSource(122))
	ends := map[int]int{}
	met := [19]int{}
	for range 20000 {
		q := drawnQuestion(draw, never)
		if k, e := ir.Check(q.l, q.fns); e != api.OK {
			t.Fatalf("function %d isn't right: %+v", k, q.fns)
		}
		all := funcs(q.fns)
		if !value.Fits(q.l, all, q.heap, q.fns[0].Param, q.arg) || !value.Heap(q.l, all, q.heap) {
			t.Fatalf("%+v doesn't fit", q)
		}
		o := q.run()
		ends[o.Kind]++
		fits := value.Heap(q.l, all, o.Heap)
		switch o.Kind {
		case api.Returned:
			fits = fits && value.Fits(q.l, all, o.Heap, q.fns[0].Result, o.Value)
		case api.Raised:
			fits = fits && o.Value.Kind == api.Int
		case api.Stuck:
			fits = false
		}
		if !fits {
			t.Fatalf("%+v: %s", q, told(o))
		}
		for _, f := range q.fns {
			meet(f.Body, &met)
		}
	}
	if ends[api.Returned] < 10000 || ends[api.Raised] < 1000 || ends[api.OutOfFuel] < 100 {
		t.Error("ends:", ends)
	}
	for op := 1; op <= 18; op++ {
		if met[op] < 1000 {
			t.Errorf("Op %d was met %d times", op, met[op])
		}
	}
}

// TestMoreFuel (P12.2): with more fuel a run that has ended otherwise than OutOfFuel ends the same; with less it is out of fuel, and has told a beginning.
func TestMoreFuel(t *testing.T) {
	draw := rand.New(rand.NewSource(123))
	events, grown := 0, 0
	for n := range 4000 {
		q := drawnQuestion(draw, 8<<(n%7))
		last := q.run()
		if last.Kind != api.OutOfFuel {
			for _, fuel := range []int{last.Steps, last.Steps + 1, api.MaxSteps} {
				if !alike(q.with(fuel).run(), last) {
					t.Fatalf("%+v: another end with %d", q, fuel)
				}
			}
		}
		for fuel := range last.Steps {
			o := q.with(fuel).run()
			if o.Kind != api.OutOfFuel || o.Steps != fuel || !reflect.DeepEqual(o.Value, api.Value{}) {
				t.Fatalf("%+v: %s", q, told(o))
			}
			if len(o.Trace) > len(last.Trace) || !slices.Equal(o.Trace, last.Trace[:len(o.Trace)]) || len(o.Heap) > len(last.Heap) {
				t.Fatalf("%+v: %s is no beginning of %s", q, told(o), told(last))
			}
			events += len(o.Trace)
			grown += len(last.Trace) - len(o.Trace)
		}
	}
	if events < 2000 || grown < 2000 {
		t.Error("too few events:", events, grown)
	}
}
