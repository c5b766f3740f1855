package vm_test

import (
	"math/rand"
	"testing"

	"palisade/api"
)

// wild draws code that mostly has on its stack what it needs, but for one thing in so many; certificates it has none.
type wild struct {
	*rand.Rand
	odd   int
	funcs []api.Func // their Caps and Slots are drawn ahead of all code
	code  []api.Ins
	depth int
	kinds map[int64]int // of slots
}

func (w *wild) isOdd() bool {
	return w.Intn(w.odd) == 0
}

// question draws all that Run is asked.
func (w *wild) question() question {
	w.funcs = nil
	for range 1 + w.Intn(3) {
		f := capturing(w.Intn(3))
		f.Slots = len(f.Caps) + 1 + w.Intn(4)
		if w.isOdd() {
			f.Slots = 1 + w.Intn(3)
		}
		w.funcs = append(w.funcs, f)
	}
	w.funcs[0].Caps = w.funcs[0].Caps[:len(w.funcs[0].Caps)*w.Intn(2)]
	for k := range w.funcs {
		w.function(k)
	}
	q := ask(w.value(2), nil, w.funcs...)
	for range w.Intn(4) {
		q.heap = append(q.heap, api.Cell{Type: typed(1+w.Intn(2), w.Intn(2)), Value: w.value(2)})
	}
	q.limits = api.Limits{Fuel: 20 << w.Intn(5), Frames: 1 + w.Intn(20), Cells: len(q.heap) + w.Intn(8)}
	return q
}

// value draws one of any Kind, so deep at most.
func (w *wild) value(deep int) api.Value {
	switch kind := w.Intn(7); {
	case kind < 2 || deep == 0:
		return integer(int64(w.Intn(6)) - 1)
	case kind == 2:
		return boolean(int64(w.Intn(2)))
	case kind == 3:
		return ref(int64(w.Intn(3)))
	case kind == 4:
		return pair(w.value(deep-1), w.value(deep-1))
	}
	n := w.Intn(len(w.funcs))
	made := fun(int64(n))
	for range w.funcs[n].Caps {
		made.Parts = append(made.Parts, w.value(deep-1))
	}
	if w.isOdd() {
		return fun(int64(w.Intn(60)), made.Parts...)
	}
	return made
}

func (w *wild) function(k int) {
	w.code, w.depth, w.kinds = nil, 0, map[int64]int{}
	f := &w.funcs[k]
	for range 1 + w.Intn(9) {
		w.statement(f)
	}
	for w.depth > 1 {
		w.emit(couple, -1)
	}
	if w.depth == 0 {
		w.push(f, 1+w.Intn(5), 2)
	}
	w.emit(give, -1)
	if w.isOdd() {
		w.code = w.code[:len(w.code)-1]
	}
	f.Code, f.Handlers = w.code, nil
	for range w.Intn(3) {
		from := w.Intn(len(w.code))
		f.Handlers = append(f.Handlers, api.Handler{From: from, To: from + 1 + w.Intn(8), At: from + w.Intn(1+len(w.code)-from)})
	}
	// Where jumps lead is drawn last, when all places are known.
	for i, ins := range f.Code {
		if ins.Op == api.OpJump || ins.Op == api.OpUnless {
			f.Code[i].A = int64(w.Intn(3) + i + 1)
			if w.isOdd() {
				f.Code[i].A = int64(w.Intn(len(f.Code) + 2))
			}
		}
	}
}

func (w *wild) emit(i api.Ins, more int) {
	w.code = append(w.code, i)
	w.depth += more
}

// push draws code that puts a value of that Kind.
func (w *wild) push(f *api.Func, kind, deep int) {
	if w.isOdd() {
		kind = 1 + w.Intn(5)
	}
	if slot := int64(w.Intn(f.Slots)); w.kinds[slot] == kind {
		w.emit(load(slot), 1)
		return
	}
	switch {
	case kind == api.Bool && w.Intn(2) == 0:
		w.emit(truth(int64(w.Intn(2))), 1)
	case kind == api.Bool:
		w.emit(number(int64(w.Intn(3))), 1)
		w.push(f, api.Int, 0)
		w.emit(op(api.OpLess+w.Intn(2)), -1)
	case kind == api.Pair && deep > 0:
		w.push(f, 1+w.Intn(5), deep-1)
		w.push(f, 1+w.Intn(5), deep-1)
		w.emit(couple, -1)
	case kind == api.Fun && w.Intn(3) == 0:
		w.emit(self, 1)
	case kind == api.Fun && deep > 0:
		k := w.Intn(len(w.funcs))
		for range w.funcs[k].Caps {
			w.push(f, 1+w.Intn(5), deep-1)
		}
		w.emit(closes(int64(k)), 1-len(w.funcs[k].Caps))
	case kind == api.Ref:
		w.push(f, 1+w.Intn(5), max(deep-1, 0))
		w.emit(cell(w.Intn(2)), 0)
	case w.Intn(4) == 0:
		w.emit(given, 1)
	default:
		w.emit(number(int64(w.Intn(4))), 1)
	}
}

// statement draws one thing to be done, with what it needs.
func (w *wild) statement(f *api.Func) {
	if w.depth > 4 {
		w.emit(pop, -1)
		return
	}
	switch w.Intn(12) {
	case 0:
		slot, kind := int64(w.Intn(f.Slots)), 1+w.Intn(5)
		w.push(f, kind, 2)
		w.emit(store(slot), -1)
		w.kinds[slot] = kind
	case 1, 2:
		w.push(f, api.Int, 1)
		w.push(f, api.Int, 1)
		w.emit(op(api.OpAdd+w.Intn(7)), -1)
	case 3:
		w.push(f, api.Bool, 1)
		w.emit(not, 0)
	case 4:
		w.push(f, api.Pair, 2)
		w.emit(op(api.OpFirst+w.Intn(2)), 0)
	case 5, 6:
		w.push(f, api.Fun, 2)
		w.push(f, 1+w.Intn(5), 1)
		w.emit(call, -1)
	case 7:
		w.push(f, api.Ref, 2)
		w.emit(get, 0)
	case 8:
		w.push(f, api.Ref, 2)
		w.push(f, 1+w.Intn(5), 1)
		w.emit(set, -2)
	case 9:
		w.push(f, api.Int, 1)
		w.emit(out(int64(w.Intn(2))), -1)
	case 10:
		w.push(f, api.Bool, 1)
		w.emit(unless(0), -1)
	case 11:
		w.rare(f)
	}
}

func (w *wild) rare(f *api.Func) {
	switch w.Intn(5) {
	case 0:
		w.push(f, api.Int, 1)
		w.emit(throw, -1)
	case 1:
		w.emit(jump(0), 0)
	case 2:
		w.push(f, 1+w.Intn(5), 2)
		w.emit(pop, -1)
	case 3:
		w.emit(number(0), 1)
		w.emit(number(0), 1)
		w.emit(op(api.OpDiv+w.Intn(2)), -1)
	case 4:
		if w.isOdd() {
			w.emit(api.Ins{Op: 3 + w.Intn(2), A: int64(w.Intn(12))}, 0)
			w.emit(api.Ins{Op: []int{api.OpClose, api.OpOut}[w.Intn(2)], A: int64(w.Intn(4))}, 0)
		}
	}
}

// eachWild asks of questions that are drawn, of ordinary ones and of odd ones.
func eachWild(seed int64, many int, ask func(w *wild, q question)) {
	for _, odd := range []int{6, 40, 1 << 40} {
		w := &wild{Rand: rand.New(rand.NewSource(seed)), odd: odd}
		for range many {
			ask(w, w.question())
		}
	}
}

// TestWild (P18.1): drawn code ends as the reference tells.
func TestWild(t *testing.T) {
	ends, ops, framed, raised := map[int]int{}, map[int]int{}, 0, 0
	eachWild(18, 12000, func(w *wild, q question) {
		o := q.run()
		if want := q.refer(); !alike(o, want) {
			t.Fatalf("%+v:\n%s\nwant\n%s", q, told(o), told(want))
		}
		ends[o.Kind]++
		if o.Steps > 15 {
			framed++
		}
		if o.Kind == api.Raised && o.Steps > 12 {
			raised++
		}
		for _, f := range q.c.Funcs {
			for _, i := range f.Code {
				ops[i.Op]++
			}
		}
	})
	for how := api.Returned; how <= api.Stuck; how++ {
		if ends[how] < 500 {
			t.Error("too few:", ends)
		}
	}
	if framed < 5000 || raised < 300 {
		t.Error("too few:", framed, raised)
	}
	for which := api.OpInt; which <= api.OpReturn; which++ {
		if ops[which] < 2000 {
			t.Error("too few:", which, ops)
		}
	}
}
