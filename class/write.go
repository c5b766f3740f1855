package class

import (
	"palisade/api"
	"palisade/bytes"
)

// What a class's bytes begin with.
const (
	mark    = 20563
	version = 1
)

// writer has what was written of a formed class, and whether that is too long; then nothing more is written.
type writer struct {
	pool *pool
	out  []byte
	long bool
}

// add writes a field. What is no field is a place in a pool that has more types than there may be bytes.
func (w *writer) add(field []byte, e api.Errno) {
	if e != api.OK || len(w.out)+len(field) > api.MaxBytes {
		w.long = true
		return
	}
	w.out = append(w.out, field...)
}

func (w *writer) short(n int) {
	if !w.long {
		w.add(bytes.Short(nil, n))
	}
}

// orNone writes one more than n: None is -1, so that is 0 then.
func (w *writer) orNone(n int) {
	w.short(n + 1)
}

func (w *writer) text(s string) {
	if !w.long {
		w.add(bytes.Text(nil, s))
	}
}

// put writes each; it ends where what was written is too long, as there may be far more.
func put[T any](w *writer, members []T, write func(T)) {
	for _, v := range members {
		if w.long {
			return
		}
		write(v)
	}
}

// putList writes how many there are, and each.
func putList[T any](w *writer, members []T, write func(T)) {
	w.short(len(members))
	put(w, members, write)
}

func (w *writer) class(c api.Class) {
	w.short(mark)
	w.short(version)
	putList(w, c.Lattice.Names, w.text)
	put(w, c.Lattice.Order, w.row)
	putList(w, w.pool.types, w.typ)
	putList(w, c.Funcs, w.function)
}

// row writes which labels one is below, by a bit for each.
func (w *writer) row(below []bool) {
	sum := 0
	for b, is := range below {
		if is {
			sum += 1 << b
		}
	}
	w.short(sum)
}

func (w *writer) typ(t api.Type) {
	w.short(t.Kind)
	w.short(t.Label)
	put(w, t.Parts, w.place)
	if t.Kind == api.Fun {
		w.short(t.Heap)
		w.orNone(t.Exc)
	}
}

func (w *writer) place(t api.Type) {
	w.short(w.pool.place(t))
}

// slot writes the place of a slot's type; the zero type has none.
func (w *writer) slot(t api.Type) {
	w.orNone(w.pool.place(t))
}

func (w *writer) function(f api.Func) {
	w.place(f.Param)
	w.place(f.Result)
	putList(w, f.Caps, w.place)
	w.short(f.Heap)
	w.orNone(f.Exc)
	w.short(f.Slots)
	putList(w, f.Code, w.instruction)
	putList(w, f.Handlers, w.handler)
	putList(w, f.Points, w.point)
	putList(w, f.Regions, w.region)
}

func (w *writer) instruction(i api.Ins) {
	w.short(i.Op)
	switch operands[i.Op] {
	case anyLong:
		w.add(bytes.Long(nil, i.A), api.OK)
	case truth, anyShort:
		w.short(int(i.A))
	case aType:
		w.place(i.T)
	}
}

func (w *writer) handler(h api.Handler) {
	w.short(h.From)
	w.short(h.To)
	w.short(h.At)
}

func (w *writer) point(at api.Point) {
	putList(w, at.Stack, w.place)
	put(w, at.Slots, w.slot)
	w.short(at.Env)
}

func (w *writer) region(r api.Region) {
	w.short(r.At)
	w.orNone(r.Join)
	putList(w, r.Places, w.short)
}
