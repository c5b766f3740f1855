package observe_test

import (
	"math/rand"

	"palisade/api"
	"palisade/flow"
	"palisade/lattice"
	"palisade/regions"
	"palisade/shape"
	"palisade/types"
	"palisade/value"
	"palisade/verify"
)

func makeLattice(names []string, pairs ...[2]int) api.Lattice {
	l, e := lattice.Make(names, pairs)
	if e != api.OK {
		panic("no lattice")
	}
	return l
}

// lattices are a single label, a chain, and the sets of two and of three things, the first of which is the greatest.
func lattices() []api.Lattice {
	sets := [][2]int{{3, 1}, {3, 2}, {1, 0}, {2, 0}}
	var subsets [][2]int
	for a := range 8 {
		for b := range 8 {
			if a&b == b {
				subsets = append(subsets, [2]int{a, b})
			}
		}
	}
	return []api.Lattice{
		makeLattice([]string{"low"}), chain(), makeLattice([]string{"ab", "a", "b", "o"}, sets...),
		makeLattice([]string{"all", "ab", "ac", "a", "bc", "b", "c", "none"}, subsets...),
	}
}

func listOf(all ...api.Type) []api.Type {
	return all
}

// drawer draws classes whose code is of the right Kinds, with certificates that say as little as may be; most of them are accepted.
type drawer struct {
	*rand.Rand
	c api.Class
	// Of the function that is drawn: its number, the state behind what is drawn already, and whether it isn't come to that.
	k       int
	state   state
	gone    bool
	handled bool
	// By which label it is come to what is drawn, and by which it will be behind all choices that are open.
	env     int
	lasting int
	// What its certificates leave out: a label; the Envs of each so-manieth place; places of regions. Where that matters the class isn't accepted, and would let secrets flow if it were.
	without gap
	spared  int
	trim    func(r *api.Region)
}

func (d *drawer) label() int {
	switch d.Intn(5) {
	case 0, 1:
		return lattice.Top(d.c.Lattice)
	case 2:
		return d.Intn(len(d.c.Lattice.Names))
	}
	return lattice.Bottom(d.c.Lattice)
}

// typed draws a type; plain ones have no Fun.
func (d *drawer) typed(levels int, plain bool) api.Type {
	t := api.Type{Kind: 1 + d.Intn(2), Label: d.label()}
	switch kind := d.Intn(10); {
	case levels == 0 || kind < 6:
	case kind < 8:
		return typed(api.Pair, t.Label, d.typed(levels-1, plain), d.typed(levels-1, plain))
	case kind == 8:
		return typed(api.Ref, t.Label, d.typed(levels-1, plain))
	case !plain:
		return d.signature(t)
	}
	return t
}

// signature is the type of a function that is drawn already, if there is one, else t.
func (d *drawer) signature(t api.Type) api.Type {
	k := d.Intn(len(d.c.Funcs))
	if made := value.TypeOf(d.c.Lattice, d.c.Funcs[k]); made.Kind == api.Fun {
		made.Label = t.Label
		return made
	}
	return t
}

// class draws what functions take, give and capture from the last one back, so that the first ones may take those behind them. Function 0 captures nothing: it would have none of that when the run begins.
func (d *drawer) class() api.Class {
	count := 1 + d.Intn(3)
	d.leaveOut()
	d.c = api.Class{Lattice: lattices()[d.Intn(4)], Funcs: make([]api.Func, count)}
	for k := count - 1; k >= 0; k-- {
		f := api.Func{Param: d.typed(2, false), Result: d.typed(1, false), Heap: lattice.Bottom(d.c.Lattice), Exc: none}
		if d.Intn(2) == 0 {
			f.Result = f.Param
		}
		f.Result.Label = lattice.Top(d.c.Lattice)
		if d.Intn(3) > 0 {
			f.Exc = lattice.Top(d.c.Lattice)
		}
		if d.Intn(4) == 0 {
			f.Heap = d.label()
		}
		for range min(k, d.Intn(3)) {
			f.Caps = append(f.Caps, d.typed(1, false))
		}
		f.Slots = 1 + len(f.Caps) + d.Intn(3)
		d.c.Funcs[k] = f
	}
	for k := range count {
		d.function(k)
	}
	return d.c
}

func (d *drawer) function(k int) {
	f := &d.c.Funcs[k]
	d.k, d.gone, d.handled = k, false, false
	d.env, d.lasting = lattice.Bottom(d.c.Lattice), lattice.Bottom(d.c.Lattice)
	d.state = state{slots: append(append(listOf(f.Param), f.Caps...), make([]api.Type, f.Slots-1-len(f.Caps))...)}
	d.block(3+d.Intn(12), 0, 2)
	if !d.gone {
		d.reduce(0)
		d.obtain(f.Result, 3)
		d.emit(give)
	}
	d.certify()
}

func (d *drawer) own() *api.Func {
	return &d.c.Funcs[d.k]
}

// emit has one instruction more, at the state as it is.
func (d *drawer) emit(i api.Ins) int {
	f := d.own()
	at := len(f.Code)
	f.Code = append(f.Code, i)
	f.Points = append(f.Points, api.Point{Stack: d.state.stack, Slots: d.state.slots, Env: d.env})
	e := effectOf(d.c, d.k, at, d.without)
	d.state = e.state
	if i.Op != api.OpUnless && e.k != none {
		d.last(e.k)
	}
	return at
}

// come has a label by which it is come to what follows, unless Envs are left out.
func (d *drawer) come(label int) {
	if d.spared == 0 && d.trim == nil {
		d.env = lattice.Join(d.c.Lattice, d.env, label)
	}
}

// last has such a label for all that follows, as far as what raises goes.
func (d *drawer) last(label int) {
	d.come(label)
	d.lasting = lattice.Join(d.c.Lattice, d.lasting, label)
}

// drop takes the last instruction away again.
func (d *drawer) drop(before state) {
	f := d.own()
	f.Code, f.Points, d.state = f.Code[:len(f.Code)-1], f.Points[:len(f.Points)-1], before
}

// leaveOut draws what certificates leave out: mostly nothing.
func (d *drawer) leaveOut() {
	d.without, d.spared, d.trim = gap{}, 0, nil
	switch d.Intn(6) {
	case 0, 1:
		d.without = gap{1 + d.Intn(api.OpReturn), 1 + d.Intn(6)}
	case 2:
		d.spared = 1 + d.Intn(4)
	case 3:
		many := d.Intn(8)
		d.trim = func(r *api.Region) {
			if many < len(r.Places) {
				r.Join, r.Places = r.Places[many], r.Places[:many]
			}
		}
	}
}

// block draws so many things to be done, which leave alone what is on the stack up to the floor.
func (d *drawer) block(many, floor, nest int) {
	for range many {
		if d.gone {
			return
		}
		switch what := d.Intn(24); {
		case what > 21 && len(d.state.stack) < 6:
			d.tell(floor)
		case what > 19 && nest > 0 && len(d.state.stack) < 6:
			d.choice(nest - 1)
		case what < 2 && nest > 0:
			d.reduce(floor)
			if len(d.state.stack) == 0 {
				d.attempt(nest - 1)
			}
		case what == 2 && d.Intn(4) == 0 && nest < 2:
			d.leave()
		case what < 6 && len(d.state.stack) < api.MaxStack-3:
			d.reckon(floor)
		case what == 6 && len(d.state.stack) < api.MaxStack-3:
			d.set(floor)
		case what < 9 && len(d.state.stack) < api.MaxStack-3:
			d.call(floor)
		default:
			d.simple(floor)
		}
	}
}

// reckon emits one of the instructions that take two Ints, one of which it may find.
func (d *drawer) reckon(floor int) {
	for n := len(d.state.stack); n <= floor || d.state.stack[n-1].Kind != api.Int; n = len(d.state.stack) {
		d.emit(number(d.Int63n(9)))
	}
	d.find(api.Int)
	which := api.OpAdd + d.Intn(7)
	if d.Intn(3) == 0 {
		which = api.OpDiv + d.Intn(2)
	}
	d.may(op(which), floor)
}

// find pushes an Int or a Bool, mostly one that stands in a slot, in a Pair or a cell there.
func (d *drawer) find(kind int) {
	before, code := d.state, len(d.own().Code)
	for range 4 {
		d.emit(load(int64(d.Intn(d.own().Slots))))
		for {
			last := d.state.stack[len(d.state.stack)-1]
			if last.Kind == kind {
				return
			}
			if last.Kind == api.Pair {
				d.emit(op(api.OpFirst + d.Intn(2)))
			} else if last.Kind == api.Ref {
				d.emit(op(api.OpGet))
			} else {
				break
			}
		}
		f := d.own()
		f.Code, f.Points, d.state = f.Code[:code], f.Points[:code], before
	}
	d.emit(op(kind, d.Int63n(2)))
}

// tell emits an OpOut.
func (d *drawer) tell(floor int) {
	d.find(api.Int)
	if !d.may(op(api.OpOut, int64(d.label())), floor) {
		d.emit(pop)
	}
}

// condition pushes a Bool that mostly hangs on what is in the slots.
func (d *drawer) condition() {
	if d.Intn(3) == 0 {
		d.find(api.Bool)
		return
	}
	d.find(api.Int)
	d.emit(number(d.Int63n(5)))
	d.emit(op(api.OpLess + d.Intn(2)))
}

// set emits an OpSet of an Int, into a cell that it may find.
func (d *drawer) set(floor int) {
	of := api.Type{Kind: api.Int, Label: d.label()}
	if i := d.Intn(d.own().Slots); d.state.slots[i].Kind == api.Ref {
		d.emit(load(int64(i)))
	} else {
		d.emit(number(d.Int63n(9)))
		d.may(api.Ins{Op: api.OpNew, T: of}, floor)
	}
	d.find(api.Int)
	if !d.may(set, floor) {
		d.reduce(floor)
	}
}

func (d *drawer) leave() {
	if d.own().Exc == none && !d.handled {
		return
	}
	d.find(api.Int)
	d.emit(throw)
	d.gone = true
}

// reduce pops what is above the floor.
func (d *drawer) reduce(floor int) {
	for len(d.state.stack) > floor {
		d.emit(pop)
	}
}

// obtain pushes something of that type, which it may find, and tells whether there is such a thing. Funs capture Funs only so deep.
func (d *drawer) obtain(t api.Type, deep int) bool {
	if len(d.state.stack) > api.MaxStack-2 {
		return false
	}
	if i := d.Intn(d.own().Slots); types.Below(d.c.Lattice, d.state.slots[i], t) {
		d.emit(load(int64(i)))
		return true
	}
	switch t.Kind {
	case api.Int:
		d.emit(number(d.Int63n(9)))
	case api.Bool:
		d.emit(truth(d.Int63n(2)))
	case api.Pair:
		if !d.obtain(t.Parts[0], deep) || !d.obtain(t.Parts[1], deep) {
			return false
		}
		d.emit(couple)
	case api.Ref:
		if !d.obtain(t.Parts[0], deep) {
			return false
		}
		d.emit(api.Ins{Op: api.OpNew, T: t.Parts[0]})
	case api.Fun:
		return deep > 0 && d.close(t, deep-1)
	}
	return true
}

// close pushes a Fun of that type.
func (d *drawer) close(t api.Type, deep int) bool {
	for k, f := range d.c.Funcs {
		if !types.Below(d.c.Lattice, value.TypeOf(d.c.Lattice, f), t) {
			continue
		}
		if k == d.k && d.Intn(2) == 0 {
			d.emit(self)
			return true
		}
		for _, captured := range f.Caps {
			if !d.obtain(captured, deep) {
				return false
			}
		}
		d.emit(closes(int64(k)))
		return true
	}
	return false
}

// call emits a call of a function, or of a Fun that it finds.
func (d *drawer) call(floor int) {
	// Mostly it is one behind it: those that call themselves go on till there is no room.
	k := d.k + 1 + d.Intn(2)
	if k >= len(d.c.Funcs) && d.Intn(4) > 0 {
		return
	}
	t := value.TypeOf(d.c.Lattice, d.c.Funcs[k%len(d.c.Funcs)])
	if i := d.Intn(d.own().Slots); d.state.slots[i].Kind == api.Fun {
		t = d.state.slots[i]
	}
	if t.Kind != api.Fun || !d.obtain(t, 2) || !d.obtain(t.Parts[0], 2) || !d.may(call, floor) {
		d.reduce(floor)
	}
}

func (d *drawer) choice(nest int) {
	before := d.env
	d.condition()
	label := d.state.stack[len(d.state.stack)-1].Label
	unless := d.emit(unless(0))
	d.come(label)
	begin := d.state
	floor := len(begin.stack)
	d.block(1+d.Intn(4), floor, nest)
	one, oneGone, jump := d.state, d.gone, 0
	if !oneGone {
		d.reduce(floor)
		one, jump = d.state, d.emit(op(api.OpJump))
	}
	f := d.own()
	f.Code[unless].A = int64(len(f.Code))
	d.state, d.gone = begin, false
	d.emit(number(0))
	d.block(d.Intn(4), floor, nest)
	if !d.gone {
		d.reduce(floor)
	}
	if oneGone || d.gone {
		d.last(label)
	}
	d.env = before
	d.come(d.lasting)
	d.meet(one, oneGone, jump)
}

func (d *drawer) attempt(nest int) {
	begin, handled := d.state, d.handled
	before, lasting := d.env, d.lasting
	from := len(d.own().Code)
	d.handled = true
	d.simple(0)
	d.block(1+d.Intn(4), 0, nest)
	one, oneGone, jump := d.state, d.gone, 0
	if !oneGone {
		d.reduce(0)
		one = d.state
	}
	d.handled = handled
	inner := d.lasting
	d.lasting = lasting
	to := len(d.own().Code)
	if from == to {
		d.state, d.gone = begin, false
		return
	}
	if !oneGone {
		jump = d.emit(op(api.OpJump))
	}
	f := d.own()
	f.Handlers = append(f.Handlers, api.Handler{From: from, To: to, At: len(f.Code)})
	d.state, d.gone = state{listOf(api.Type{Kind: api.Int, Label: lattice.Bottom(d.c.Lattice)}), begin.slots}, false
	d.emit(store(d.Int63n(int64(f.Slots))))
	d.block(d.Intn(3), 0, nest)
	if !d.gone {
		d.reduce(0)
	} else {
		d.last(inner)
	}
	d.env = before
	d.come(d.lasting)
	d.meet(one, oneGone, jump)
}

// meet goes on behind two ways, the first of which ends with that jump.
func (d *drawer) meet(one state, oneGone bool, jump int) {
	if !oneGone {
		d.own().Code[jump].A = int64(len(d.own().Code))
	}
	switch {
	case oneGone:
	case d.gone:
		d.state, d.gone = one, false
	default:
		d.state = d.joined(one, d.state)
	}
}

// joined is the least state above both, with no type in a slot, if there is no such one.
func (d *drawer) joined(one, other state) state {
	var made state
	for i, t := range one.stack {
		if i < len(other.stack) {
			t, _ = types.Join(d.c.Lattice, t, other.stack[i])
		}
		made.stack = append(made.stack, t)
	}
	for i, t := range one.slots {
		t, _ = types.Join(d.c.Lattice, t, other.slots[i])
		made.slots = append(made.slots, t)
	}
	return made
}

// simple emits one instruction that may be done, if one is soon found.
func (d *drawer) simple(floor int) {
	for range 12 {
		i := op(1 + d.Intn(api.OpOut))
		if d.Intn(2) == 0 {
			i.Op = []int{api.OpLoad, api.OpStore, api.OpDiv, api.OpCall, api.OpCall, api.OpClose, api.OpGet, api.OpSet}[d.Intn(8)]
		}
		switch i.Op {
		case api.OpLoad, api.OpStore:
			i.A = int64(d.Intn(d.own().Slots))
		case api.OpBool:
			i.A = int64(d.Intn(2))
		case api.OpClose:
			i.A = int64(d.Intn(len(d.c.Funcs)))
		case api.OpOut:
			i.A = int64(d.label())
		case api.OpNew:
			if len(d.state.stack) == 0 {
				continue
			}
			i.T = d.state.stack[len(d.state.stack)-1]
			i.T.Label = lattice.Join(d.c.Lattice, i.T.Label, d.label())
		}
		if d.may(i, floor) {
			return
		}
	}
	if len(d.state.stack) < api.MaxStack-2 {
		d.emit(number(d.Int63n(9)))
	}
}

// may emits the instruction, if it may be done.
func (d *drawer) may(i api.Ins, floor int) bool {
	before, env, lasting := d.state, d.env, d.lasting
	at := d.emit(i)
	takes, _ := shape.Pops(*d.own(), d.c, at)
	e := effectOf(d.c, d.k, at, d.without)
	ok := e.ok && len(before.stack)-takes >= floor && len(d.state.stack) <= api.MaxStack-2 && (e.p == none || d.handled || d.own().Exc != none)
	for _, t := range d.state.stack {
		ok = ok && types.Formed(d.c.Lattice, t)
	}
	if !ok {
		d.drop(before)
		d.env, d.lasting = env, lasting
	}
	return ok
}

// certify makes the regions, and then once more all points, with the least Envs that the regions ask for.
func (d *drawer) certify() {
	f := d.own()
	calls := verify.Calls(d.c, d.k)
	f.Regions = regions.Make(*f, calls)
	for i := range f.Regions {
		if d.trim != nil {
			d.trim(&f.Regions[i])
		}
	}
	come := make([]*state, len(f.Code))
	come[0] = &state{slots: append(append(listOf(f.Param), f.Caps...), make([]api.Type, f.Slots-1-len(f.Caps))...)}
	goes := func(to int, s state) {
		if come[to] != nil {
			s = d.joined(*come[to], s)
		}
		come[to] = &s
	}
	for at := range f.Code {
		if come[at] != nil {
			f.Points[at].Stack, f.Points[at].Slots = come[at].stack, come[at].slots
		}
		e := effectOf(d.c, d.k, at, d.without)
		for _, r := range f.Regions {
			if r.At == at && e.k != none {
				d.raise(r.Places, e.k)
			}
		}
		if come[at] == nil {
			continue
		}
		for _, to := range nextOf(*f, at) {
			goes(to, e.state)
		}
		if handler := flow.Handler(*f, at); handler != none && e.p != none {
			goes(handler, state{listOf(api.Type{Kind: api.Int, Label: e.p}), f.Points[at].Slots})
		}
	}
}

// raise has a label in the Envs of these places.
func (d *drawer) raise(places []int, label int) {
	points := d.own().Points
	for _, at := range places {
		if d.spared == 0 || at%d.spared > 0 {
			points[at].Env = lattice.Join(d.c.Lattice, points[at].Env, label)
		}
	}
}
