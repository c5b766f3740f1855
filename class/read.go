package class

import (
	"palisade/api"
	"palisade/bytes"
	"palisade/types"
)

// reader reads a class. It has a reader of fields, and what names and places mean in what follows.
type reader struct {
	*bytes.Reader
	lattice api.Lattice
	pool    []api.Type
}

// read is the class that b tells, and whether b are of the form of one; whether it is formed, and its pool as it must be, isn't asked here.
func read(b []byte) (api.Class, bool) {
	r := &reader{Reader: bytes.Read(b)}
	c := r.class()
	return c, r.Done()
}

// refuse has the reader failed, as one that is nil has.
func (r *reader) refuse() {
	r.Reader = nil
}

// times reads so many.
func times[T any](r *reader, count int, next func() T) []T {
	var members []T
	for len(members) < count && !r.Failed() {
		members = append(members, next())
	}
	return members
}

// list reads how many there are, which is at most so many, and each.
func list[T any](r *reader, most int, next func() T) []T {
	return times(r, r.Below(most+1), next)
}

func (r *reader) class() api.Class {
	if r.Short() != mark || r.Short() != version {
		r.refuse()
	}
	r.lattice.Names = list(r, api.MaxLabels, r.Text)
	r.lattice.Order = times(r, len(r.lattice.Names), r.row)
	r.readPool()
	return api.Class{Lattice: r.lattice, Funcs: list(r, api.MaxFuncs, r.function)}
}

func (r *reader) row() []bool {
	sum := r.Short()
	below := make([]bool, len(r.lattice.Names))
	for b := range below {
		below[b] = sum>>b&1 == 1
	}
	return below
}

// readPool puts each type into the pool ahead of reading the next one, which may name it.
func (r *reader) readPool() {
	for count := r.Short(); len(r.pool) < count && !r.Failed(); {
		r.pool = append(r.pool, r.poolType())
	}
}

// poolType asks at once whether it is formed: of what isn't, a few bytes may tell more nodes than there is room for.
func (r *reader) poolType() api.Type {
	t := api.Type{Kind: r.Short(), Label: r.Short()}
	t.Parts = times(r, partCount(t.Kind), r.named)
	if t.Kind == api.Fun {
		t.Heap, t.Exc = r.Short(), r.orNone()
	}
	if !types.Formed(r.lattice, t) {
		r.refuse()
	}
	return t
}

func partCount(kind int) int {
	switch kind {
	case api.Pair, api.Fun:
		return 2
	case api.Ref:
		return 1
	}
	return 0
}

// named is the type of the pool whose place is read, in the pool's own memory.
func (r *reader) named() api.Type {
	return r.at(r.Below(len(r.pool)))
}

func (r *reader) at(place int) api.Type {
	if place >= len(r.pool) {
		r.refuse()
	}
	if r.Failed() {
		return api.Type{}
	}
	return r.pool[place]
}

func (r *reader) typ() api.Type {
	return copied(r.named())
}

// slot is a slot's type, which may be zero.
func (r *reader) slot() api.Type {
	place := r.orNone()
	if place == api.None {
		return api.Type{}
	}
	return copied(r.at(place))
}

// orNone is one less than what is read: None, if that is 0.
func (r *reader) orNone() int {
	return r.Short() - 1
}

func (r *reader) function() api.Func {
	f := api.Func{Param: r.typ(), Result: r.typ(), Caps: list(r, api.MaxCaps, r.typ)}
	f.Heap, f.Exc, f.Slots = r.Short(), r.orNone(), r.Below(api.MaxSlots+1)
	f.Code = list(r, api.MaxCode, r.instruction)
	f.Handlers = list(r, api.MaxCode, r.handler)
	f.Points = list(r, api.MaxCode, func() api.Point { return r.point(f.Slots) })
	f.Regions = list(r, api.MaxCode, r.region)
	return f
}

func (r *reader) instruction() api.Ins {
	i := api.Ins{Op: r.Below(len(operands))}
	switch operands[i.Op] {
	case anyLong:
		i.A = r.Long()
	case truth, anyShort:
		i.A = int64(r.Short())
	case aType:
		i.T = r.typ()
	}
	return i
}

func (r *reader) handler() api.Handler {
	return api.Handler{From: r.Short(), To: r.Short(), At: r.Short()}
}

func (r *reader) point(slots int) api.Point {
	return api.Point{Stack: list(r, api.MaxStack, r.typ), Slots: times(r, slots, r.slot), Env: r.Short()}
}

func (r *reader) region() api.Region {
	return api.Region{At: r.Short(), Join: r.orNone(), Places: list(r, api.MaxCode, r.Short)}
}
