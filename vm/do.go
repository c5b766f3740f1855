package vm

import (
	"palisade/api"
	"palisade/eval"
)

// What an Op may need of the stack, beside a value of one Kind.
const (
	nothing  = 0
	anything = -1
)

// needed is, of each Op, of which Kinds what it takes off the stack must be, the last one on top. What OpClose takes hangs on the function.
var needed = [...][2]int{
	api.OpStore:  {anything},
	api.OpPop:    {anything},
	api.OpAdd:    {api.Int, api.Int},
	api.OpSub:    {api.Int, api.Int},
	api.OpMul:    {api.Int, api.Int},
	api.OpDiv:    {api.Int, api.Int},
	api.OpMod:    {api.Int, api.Int},
	api.OpLess:   {api.Int, api.Int},
	api.OpSame:   {api.Int, api.Int},
	api.OpNot:    {api.Bool},
	api.OpPair:   {anything, anything},
	api.OpFirst:  {api.Pair},
	api.OpSecond: {api.Pair},
	api.OpCall:   {api.Fun, anything},
	api.OpNew:    {anything},
	api.OpGet:    {api.Ref},
	api.OpSet:    {api.Ref, anything},
	api.OpOut:    {api.Int},
	api.OpUnless: {api.Bool},
	api.OpRaise:  {api.Int},
	api.OpReturn: {anything},
}

// do does an instruction of f, which goes on behind it, unless it goes elsewhere.
func (m *machine) do(f *frame, ins api.Ins) {
	a, b, ok := f.take(needed[ins.Op])
	if !ok {
		m.Stop(api.Stuck)
		return
	}
	switch ins.Op {
	case api.OpInt:
		m.put(f, api.Value{Kind: api.Int, N: ins.A})
	case api.OpBool:
		m.put(f, api.Value{Kind: api.Bool, N: ins.A})
	case api.OpLoad:
		m.load(f, int(ins.A))
	case api.OpStore:
		m.store(f, int(ins.A), a)
	case api.OpPop:
	case api.OpNot:
		m.put(f, api.Value{Kind: api.Bool, N: 1 - a.N})
	case api.OpPair:
		m.build(f, api.Value{Kind: api.Pair, Parts: []api.Value{a, b}})
	case api.OpFirst:
		m.put(f, a.Parts[0])
	case api.OpSecond:
		m.put(f, a.Parts[1])
	case api.OpClose:
		m.makeFun(f, ins.A)
	case api.OpSelf:
		m.put(f, f.fun)
	case api.OpCall:
		m.call(a, b)
	case api.OpNew:
		m.makeCell(f, ins.T, a)
	case api.OpGet:
		m.get(f, a)
	case api.OpSet:
		m.Set(a, b)
	case api.OpOut:
		m.tell(int(ins.A), a.N)
	case api.OpJump:
		f.place = int(ins.A)
	case api.OpUnless:
		f.choose(int(ins.A), a.N == 0)
	case api.OpRaise:
		m.raise(a)
	case api.OpReturn:
		m.leave(f, a)
	default:
		m.reckon(f, ins.Op, a.N, b.N)
	}
}

func (m *machine) load(f *frame, slot int) {
	v, ok := f.load(slot)
	if !ok {
		m.Stop(api.Stuck)
		return
	}
	m.put(f, v)
}

func (m *machine) store(f *frame, slot int, v api.Value) {
	if !f.store(slot, v) {
		m.Stop(api.Stuck)
	}
}

func (m *machine) reckon(f *frame, op int, a, b int64) {
	v, ok := eval.Reckon(op, a, b)
	if !ok {
		m.raise(api.Value{Kind: api.Int})
		return
	}
	m.put(f, v)
}

// build puts a Pair or a Fun that is new.
func (m *machine) build(f *frame, v api.Value) {
	if m.Fits(v) {
		m.put(f, v)
	}
}

func (m *machine) makeFun(f *frame, number int64) {
	if number >= int64(len(m.class.Funcs)) {
		m.Stop(api.Stuck)
		return
	}
	captured, ok := f.takeAll(len(m.class.Funcs[number].Caps))
	if !ok {
		m.Stop(api.Stuck)
		return
	}
	m.build(f, api.Value{Kind: api.Fun, N: number, Parts: captured})
}

func (m *machine) makeCell(f *frame, t api.Type, v api.Value) {
	if m.Cells() >= m.limits.Cells {
		m.Stop(api.Exhausted)
		return
	}
	m.put(f, m.NewCell(t, v))
}

func (m *machine) get(f *frame, ref api.Value) {
	if v, ok := m.Get(ref); ok {
		m.put(f, v)
	}
}

func (m *machine) tell(label int, n int64) {
	if label >= len(m.class.Lattice.Names) {
		m.Stop(api.Stuck)
		return
	}
	m.Tell(label, n)
}
