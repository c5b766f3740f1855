package class_test

import (
	"math/rand"
	"slices"
	"testing"

	"palisade/api"
	"palisade/class"
	"palisade/types"
)

// drawer draws classes, which are formed but for one thing in so many.
type drawer struct {
	*rand.Rand
	odd    int
	labels int
	some   []api.Type
}

// never is the odd of classes that are all formed.
const never = 1 << 40

// number is one from 0 to most, or now and then another one.
func (d *drawer) number(most int) int {
	switch {
	case d.Intn(d.odd) == 0:
		return []int{-2, -1, most + 1, 65535, 65536, 9}[d.Intn(6)]
	case d.Intn(4) == 0:
		return []int{0, most}[d.Intn(2)]
	}
	return d.Intn(most + 1)
}

func (d *drawer) label() int {
	return d.number(d.labels - 1)
}

func (d *drawer) labelOrNone() int {
	if d.Intn(3) == 0 {
		return none
	}
	return d.label()
}

// length is mostly a small one, and now and then most.
func (d *drawer) length(most int) int {
	if d.Intn(40) == 0 {
		return most
	}
	return d.Intn(min(most, 5) + 1)
}

// typ is one so deep at most.
func (d *drawer) typ(deep int) api.Type {
	kind := d.Intn(8)
	switch {
	case d.Intn(d.odd) == 0:
		return api.Type{Kind: d.Intn(8), Label: d.label(), Parts: d.list(d.Intn(4), func() api.Type { return integer(0) }), Heap: d.Intn(2), Exc: d.Intn(3) - 1}
	case deep == 1 || kind < 2:
		return api.Type{Kind: 1 + d.Intn(2), Label: d.label()}
	case kind < 4:
		return pair(d.label(), d.typ(deep-1), d.typ(deep-1))
	case kind < 6:
		return ref(d.label(), d.typ(deep-1))
	}
	return fun(d.label(), d.typ(deep-1), d.typ(deep-1), d.label(), d.labelOrNone())
}

func (d *drawer) list(n int, next func() api.Type) []api.Type {
	var all []api.Type
	for range n {
		all = append(all, next())
	}
	return all
}

// use is mostly one of some types, or one of their Parts.
func (d *drawer) use() api.Type {
	if d.Intn(5) == 0 {
		return d.typ(3)
	}
	t := d.some[d.Intn(len(d.some))]
	for len(t.Parts) > 0 && d.Intn(3) == 0 {
		t = t.Parts[d.Intn(len(t.Parts))]
	}
	return t
}

func (d *drawer) slot() api.Type {
	if d.Intn(3) == 0 {
		return api.Type{}
	}
	return d.use()
}

func (d *drawer) class() api.Class {
	l := lattices()[d.Intn(4)]
	d.labels = len(l.Names)
	d.some = d.list(1+d.Intn(6), func() api.Type { return d.typ(1 + d.Intn(5)) })
	for i, t := range d.some {
		if types.Nodes(t) > api.MaxNodes {
			d.some[i] = integer(0)
		}
	}
	c := api.Class{Lattice: l}
	for range 1 + d.Intn(4) {
		c.Funcs = append(c.Funcs, d.function())
	}
	if d.Intn(3*d.odd) == 0 {
		c.Funcs = c.Funcs[:0]
	}
	return c
}

func (d *drawer) function() api.Func {
	f := api.Func{Param: d.use(), Result: d.use(), Caps: d.list(d.length(16), d.use), Heap: d.label(), Exc: d.labelOrNone(), Slots: 1 + d.number(5)}
	for range d.length(200) {
		f.Code = append(f.Code, d.ins())
	}
	for range d.length(100) {
		f.Handlers = append(f.Handlers, api.Handler{From: d.number(maxShort), To: d.number(maxShort), At: d.number(maxShort)})
	}
	for range d.length(100) {
		p := api.Point{Stack: d.list(d.length(8), d.use), Slots: d.list(max(0, min(f.Slots, 250)), d.slot), Env: d.label()}
		if d.Intn(2*d.odd) == 0 {
			p.Slots = p.Slots[:len(p.Slots)/2]
		}
		f.Points = append(f.Points, p)
	}
	for range d.length(100) {
		r := api.Region{At: d.number(maxShort), Join: d.number(65534)}
		if d.Intn(3) == 0 {
			r.Join = none
		}
		for range d.length(200) {
			r.Places = append(r.Places, d.number(maxShort))
		}
		f.Regions = append(f.Regions, r)
	}
	return f
}

func (d *drawer) ins() api.Ins {
	i := api.Ins{Op: 1 + d.number(26)}
	bounds, some := numbersOf[i.Op]
	switch {
	case i.Op == api.OpInt:
		i.A = int64(d.Uint64())
	case i.Op == api.OpNew:
		i.T = d.use()
	case some:
		i.A = int64(d.number(int(bounds[1])))
	}
	if d.Intn(3*d.odd) == 0 {
		i.T = d.use()
	}
	return i
}

// TestDrawnFormed (P13.1, P13.3): drawn classes that are formed: their pools and bytes as the reference has them, and back.
func TestDrawnFormed(t *testing.T) {
	d := &drawer{Rand: rand.New(rand.NewSource(13)), odd: never}
	for range 1500 {
		c := d.class()
		if !class.Formed(c) || !refFormed(c) {
			t.Fatalf("not formed: %+v", c)
		}
		pool := class.Pool(c)
		if !slices.EqualFunc(pool, refPool(c), types.Same) {
			t.Fatalf("%+v\n%+v", pool, refPool(c))
		}
		b, e := class.Encode(c)
		if e != api.OK || string(b) != string(refBytes(c)) {
			t.Fatalf("error %d\n%x\n%x", e, b, refBytes(c))
		}
		back, e := class.Decode(b)
		if e != api.OK || !class.Same(back, c) || told(back) != told(c) {
			t.Fatalf("error %d\n%+v\n%+v", e, back, c)
		}
	}
}

// TestDrawnOdd (P13.1): drawn classes that may not be formed.
func TestDrawnOdd(t *testing.T) {
	d := &drawer{Rand: rand.New(rand.NewSource(131)), odd: 150}
	seen := map[bool]int{}
	for range 10_000 {
		c := d.class()
		want := refFormed(c)
		seen[want]++
		b, e := class.Encode(c)
		if class.Formed(c) != want || (e == api.OK) != want || !want && (e != api.ErrForm || len(b)+len(class.Pool(c)) != 0) {
			t.Fatalf("not %v, error %d: %+v", want, e, c)
		}
	}
	if seen[true] < 1000 || seen[false] < 1000 {
		t.Error(seen)
	}
}

// TestDrawnTurned (P13.2, P13.3): the bytes of drawn classes, turned, cut, moved or with more between: what is decoded is encoded to its very bytes, and what isn't is no class's.
func TestDrawnTurned(t *testing.T) {
	d := &drawer{Rand: rand.New(rand.NewSource(132)), odd: never}
	seen := map[api.Errno]int{}
	for range 1500 {
		b := encoded(t, d.class())
		if len(b) > 1000 {
			continue
		}
		for range 20 {
			seen[decoded(t, d.turned(slices.Clone(b)))]++
		}
	}
	if seen[api.OK] < 1000 || seen[api.ErrBad] < 4000 {
		t.Error(seen)
	}
}

// turned is b changed in one way.
func (d *drawer) turned(b []byte) []byte {
	k := d.Intn(len(b))
	even := k &^ 1
	switch d.Intn(7) {
	case 0:
		b[k] = byte(d.Intn(256))
	case 1:
		b[k] ^= 1 << d.Intn(8)
	case 2:
		b[k] += byte(d.Intn(5) - 2)
	case 3:
		return slices.Delete(b, even, min(len(b), even+2*(1+d.Intn(3))))
	case 4:
		return slices.Insert(b, even, fields(d.Intn(6))...)
	case 5:
		return slices.Insert(b, even, b[even:min(len(b), even+2*(1+d.Intn(4)))]...)
	case 6:
		to := d.Intn(len(b)) &^ 1
		copy(b[to:], slices.Clone(b[even:min(len(b), even+2*(1+d.Intn(4)))]))
	}
	return b
}

// TestDrawnBytes (P13.2): bytes that are drawn, alone and behind right beginnings.
func TestDrawnBytes(t *testing.T) {
	d := rand.New(rand.NewSource(133))
	heads := [][]byte{nil, fields(20563, 1), fields(20563, 1, 1, "low", 1), fields(20563, 1, 2, "low", "high", 3, 2, 1, 1, 0), fields(20563, 1, 1, "low", 1, 1, 1, 0, 1, 0, 0, 0, 0, 0, 1), fields(20563, 1, 1, "low", 1, 1, 1, 0, 1, 0, 0, 0, 0, 0, 1, 0, 0, 0)}
	seen := map[api.Errno]int{}
	for n := range 200_000 {
		b := slices.Clone(heads[n%len(heads)])
		for range d.Intn(24) {
			b = append(b, fields(d.Intn(1+d.Intn(28)))...)
		}
		seen[decoded(t, b)]++
	}
	if seen[api.OK] < 300 || seen[api.ErrBad] < 100_000 {
		t.Error(seen)
	}
}
