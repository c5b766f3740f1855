package class_test

import (
	"encoding/binary"
	"slices"

	"palisade/api"
	"palisade/lattice"
	"palisade/types"
)

// What follows is the chapter's words once more, as plainly as may be.

func within(n, least, most int) bool {
	return least <= n && n <= most
}

func refFormed(c api.Class) bool {
	if !lattice.Formed(c.Lattice) || !within(len(c.Funcs), 1, 60) {
		return false
	}
	for _, f := range c.Funcs {
		if !refFunction(c.Lattice, f) {
			return false
		}
	}
	return true
}

func refFunction(l api.Lattice, f api.Func) bool {
	labels := len(l.Names)
	ok := within(f.Heap, 0, labels-1) && within(f.Exc, -1, labels-1) && within(f.Slots, 1, 250) && len(f.Caps) <= 16
	ok = ok && len(f.Code) <= 2000 && len(f.Handlers) <= 2000 && len(f.Points) <= 2000 && len(f.Regions) <= 2000
	formed := append([]api.Type{f.Param, f.Result}, f.Caps...)
	for _, i := range f.Code {
		ok = ok && refIns(l, i)
	}
	for _, h := range f.Handlers {
		ok = ok && within(h.From, 0, 65535) && within(h.To, 0, 65535) && within(h.At, 0, 65535)
	}
	for _, p := range f.Points {
		ok = ok && len(p.Stack) <= 8 && len(p.Slots) == f.Slots && within(p.Env, 0, labels-1)
		formed = append(formed, p.Stack...)
		for _, s := range p.Slots {
			if !refZero(s) {
				formed = append(formed, s)
			}
		}
	}
	for _, r := range f.Regions {
		ok = ok && within(r.At, 0, 65535) && within(r.Join, -1, 65534) && len(r.Places) <= 2000
		for _, place := range r.Places {
			ok = ok && within(place, 0, 65535)
		}
	}
	for _, t := range formed {
		ok = ok && types.Formed(l, t)
	}
	return ok
}

func refIns(l api.Lattice, i api.Ins) bool {
	switch i.Op {
	case api.OpInt:
		return refZero(i.T)
	case api.OpBool:
		return refZero(i.T) && (i.A == 0 || i.A == 1)
	case api.OpLoad, api.OpStore, api.OpClose, api.OpOut, api.OpJump, api.OpUnless:
		return refZero(i.T) && i.A >= 0 && i.A <= 65535
	case api.OpNew:
		return types.Formed(l, i.T) && i.A == 0
	}
	return within(i.Op, 1, 27) && refZero(i.T) && i.A == 0
}

func refZero(t api.Type) bool {
	return types.Same(t, api.Type{})
}

// refPool goes through the class's types, and through each one's Parts first.
func refPool(c api.Class) []api.Type {
	var pool []api.Type
	var meet func(all ...api.Type)
	meet = func(all ...api.Type) {
		for _, t := range all {
			meet(t.Parts...)
			if !refZero(t) && refPlace(pool, t) == none {
				pool = append(pool, t)
			}
		}
	}
	for _, f := range c.Funcs {
		meet(f.Param, f.Result)
		meet(f.Caps...)
		for _, i := range f.Code {
			meet(i.T)
		}
		for _, p := range f.Points {
			meet(p.Stack...)
			meet(p.Slots...)
		}
	}
	return pool
}

func refPlace(pool []api.Type, t api.Type) int {
	return slices.IndexFunc(pool, func(u api.Type) bool { return types.Same(t, u) })
}

// refBytes is of a formed class, whose numbers have room in their fields.
func refBytes(c api.Class) []byte {
	pool := refPool(c)
	out := fields(20563, 1, len(c.Lattice.Names))
	for _, name := range c.Lattice.Names {
		out = append(out, fields(name)...)
	}
	for a := range c.Lattice.Names {
		sum := 0
		for b, bit := 0, 1; b < len(c.Lattice.Names); b, bit = b+1, 2*bit {
			if lattice.Leq(c.Lattice, a, b) {
				sum += bit
			}
		}
		out = append(out, fields(sum)...)
	}
	out = append(out, fields(len(pool))...)
	for _, t := range pool {
		out = append(out, fields(t.Kind, t.Label)...)
		out = append(out, refPlaces(pool, t.Parts)...)
		if t.Kind == api.Fun {
			out = append(out, fields(t.Heap, t.Exc+1)...)
		}
	}
	out = append(out, fields(len(c.Funcs))...)
	for _, f := range c.Funcs {
		out = append(out, refFunctionBytes(pool, f)...)
	}
	return out
}

func refPlaces(pool, all []api.Type) []byte {
	var out []byte
	for _, t := range all {
		out = append(out, fields(refPlace(pool, t))...)
	}
	return out
}

func refFunctionBytes(pool []api.Type, f api.Func) []byte {
	out := fields(refPlace(pool, f.Param), refPlace(pool, f.Result), len(f.Caps), refPlaces(pool, f.Caps), f.Heap, f.Exc+1, f.Slots, len(f.Code))
	for _, i := range f.Code {
		out = append(out, fields(i.Op)...)
		switch i.Op {
		case api.OpInt:
			out = append(out, fields(i.A)...)
		case api.OpBool, api.OpLoad, api.OpStore, api.OpClose, api.OpOut, api.OpJump, api.OpUnless:
			out = append(out, fields(int(i.A))...)
		case api.OpNew:
			out = append(out, fields(refPlace(pool, i.T))...)
		}
	}
	out = append(out, fields(len(f.Handlers))...)
	for _, h := range f.Handlers {
		out = append(out, fields(h.From, h.To, h.At)...)
	}
	out = append(out, fields(len(f.Points))...)
	for _, p := range f.Points {
		out = append(out, fields(len(p.Stack), refPlaces(pool, p.Stack))...)
		for _, s := range p.Slots {
			out = append(out, fields(refPlace(pool, s)+1)...)
		}
		out = append(out, fields(p.Env)...)
	}
	out = append(out, fields(len(f.Regions))...)
	for _, r := range f.Regions {
		out = append(out, fields(r.At, r.Join+1, len(r.Places))...)
		for _, place := range r.Places {
			out = append(out, fields(place)...)
		}
	}
	return out
}

// refDecode is the class whose bytes b are, if there is one.
func refDecode(b []byte) (c api.Class, ok bool) {
	defer func() {
		if recover() != nil {
			c, ok = api.Class{}, false
		}
	}()
	c = (&taker{rest: b}).class()
	if !refFormed(c) || string(refBytes(c)) != string(b) {
		return api.Class{}, false
	}
	return c, true
}

// taker takes fields off bytes; it panics where there is none, and where a place is none.
type taker struct {
	rest []byte
	pool []api.Type
}

func (t *taker) short() int {
	n := binary.BigEndian.Uint16(t.rest)
	t.rest = t.rest[2:]
	return int(n)
}

func (t *taker) long() int64 {
	n := binary.BigEndian.Uint64(t.rest)
	t.rest = t.rest[8:]
	return int64(n)
}

func (t *taker) text() string {
	n := t.short()
	s := string(t.rest[:n])
	t.rest = t.rest[n:]
	return s
}

func (t *taker) types(n int) []api.Type {
	var all []api.Type
	for range n {
		all = append(all, t.pool[t.short()])
	}
	return all
}

func (t *taker) class() api.Class {
	var c api.Class
	t.short()
	t.short()
	for range t.short() {
		c.Lattice.Names = append(c.Lattice.Names, t.text())
	}
	for range c.Lattice.Names {
		sum := t.short()
		var row []bool
		for range c.Lattice.Names {
			row = append(row, sum%2 == 1)
			sum /= 2
		}
		c.Lattice.Order = append(c.Lattice.Order, row)
	}
	for range t.short() {
		kind := t.short()
		n := map[int]int{api.Pair: 2, api.Fun: 2, api.Ref: 1}[kind]
		made := api.Type{Kind: kind, Label: t.short(), Parts: t.types(n)}
		if kind == api.Fun {
			made.Heap = t.short()
			made.Exc = t.short() - 1
		}
		if types.Nodes(made) > 40 {
			panic("too great a type")
		}
		t.pool = append(t.pool, made)
	}
	for range t.short() {
		c.Funcs = append(c.Funcs, t.function())
	}
	return c
}

func (t *taker) function() api.Func {
	var f api.Func
	f.Param = t.pool[t.short()]
	f.Result = t.pool[t.short()]
	f.Caps = t.types(t.short())
	f.Heap = t.short()
	f.Exc = t.short() - 1
	f.Slots = t.short()
	for range t.short() {
		i := api.Ins{Op: t.short()}
		switch i.Op {
		case api.OpInt:
			i.A = t.long()
		case api.OpBool, api.OpLoad, api.OpStore, api.OpClose, api.OpOut, api.OpJump, api.OpUnless:
			i.A = int64(t.short())
		case api.OpNew:
			i.T = t.pool[t.short()]
		}
		f.Code = append(f.Code, i)
	}
	for range t.short() {
		f.Handlers = append(f.Handlers, api.Handler{From: t.short(), To: t.short(), At: t.short()})
	}
	for range t.short() {
		p := api.Point{Stack: t.types(t.short())}
		for range f.Slots {
			var s api.Type
			if n := t.short(); n > 0 {
				s = t.pool[n-1]
			}
			p.Slots = append(p.Slots, s)
		}
		p.Env = t.short()
		f.Points = append(f.Points, p)
	}
	for range t.short() {
		r := api.Region{At: t.short(), Join: t.short() - 1}
		for range t.short() {
			r.Places = append(r.Places, t.short())
		}
		f.Regions = append(f.Regions, r)
	}
	return f
}
