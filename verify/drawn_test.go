package verify_test

import (
	"math/rand"
	"reflect"
	"slices"
	"testing"

	"palisade/api"
	"palisade/lattice"
	"palisade/verify"
)

func newDrawer(seed int64) *drawer {
	return &drawer{Rand: rand.New(rand.NewSource(seed))}
}

// against holds what Check and Calls tell of c against the reference.
func against(t *testing.T, c api.Class) answer {
	t.Helper()
	got, want := checked(c), refCheck(c)
	if got != want {
		t.Fatalf("%v is told, not %v: %+v", got, want, c)
	}
	for k := -1; k <= len(c.Funcs); k++ {
		if got, want := verify.Calls(c, k), refCalls(c, k); !slices.Equal(got, want) {
			t.Fatalf("of %d the calls %v are told, not %v: %+v", k, got, want, c)
		}
	}
	return got
}

// TestDrawn (P17.1, P17.2): drawn classes, against the reference. Most of them are accepted, and all Ops are among these.
func TestDrawn(t *testing.T) {
	d := newDrawer(17)
	told, ops := map[api.Errno]int{}, map[int]int{}
	for range 4000 {
		c := d.class()
		got := against(t, c)
		told[got.e]++
		for _, f := range c.Funcs {
			for _, i := range f.Code {
				if got.e == api.OK {
					ops[i.Op]++
				}
			}
		}
	}
	if told[api.OK] < 1500 || told[api.ErrVerify] < 500 {
		t.Error("too few:", told)
	}
	for which := api.OpInt; which <= api.OpReturn; which++ {
		if ops[which] < 50 {
			t.Error("too few:", which, ops)
		}
	}
}

// TestTurned (P17.1, P17.2): accepted classes in which one thing was changed, against the reference: it is refused at places of each Op.
func TestTurned(t *testing.T) {
	d := newDrawer(171)
	told, ops := map[api.Errno]int{}, map[int]int{}
	for range 900 {
		c := roomy(d.class())
		if checked(c) != accepted {
			continue
		}
		for range 16 {
			turned := roomy(c)
			d.turn(&turned)
			got := against(t, turned)
			told[got.e]++
			if got.e == api.ErrVerify && got.at >= 0 {
				ops[turned.Funcs[got.function].Code[got.at].Op]++
			}
		}
	}
	if told[api.OK] < 2000 || told[api.ErrVerify] < 2000 {
		t.Error("too few:", told)
	}
	for which := api.OpInt; which <= api.OpReturn; which++ {
		if ops[which] == 0 {
			t.Error("too few:", which, ops)
		}
	}
}

// turn changes one thing in a class: a number, or a type in a slot, or an Op, or a region.
func (d *drawer) turn(c *api.Class) {
	f := &c.Funcs[d.Intn(len(c.Funcs))]
	p := &f.Points[d.Intn(len(f.Points))]
	i := &f.Code[d.Intn(len(f.Code))]
	switch d.Intn(10) {
	case 8:
		f.Heap, f.Result.Label = d.Intn(len(c.Lattice.Names)), d.Intn(len(c.Lattice.Names))
	case 9:
		f.Exc = d.Intn(len(c.Lattice.Names)+1) - 1
	case 0:
		p.Slots[d.Intn(len(p.Slots))] = api.Type{}
	case 1:
		i.Op = api.OpAdd + d.Intn(api.OpSecond-api.OpAdd+1)
		i.A, i.T = 0, api.Type{}
	case 2:
		p.Env = d.Intn(len(c.Lattice.Names))
	case 3:
		if len(f.Regions) > 0 {
			d.turnRegion(f)
			return
		}
		d.turnNumber(reflect.ValueOf(p).Elem(), c)
	case 4, 5, 6:
		d.turnNumber(reflect.ValueOf(p).Elem(), c)
	case 7:
		d.turnNumber(reflect.ValueOf(f).Elem(), c)
	}
}

func (d *drawer) turnRegion(f *api.Func) {
	i := d.Intn(len(f.Regions))
	r := &f.Regions[i]
	switch d.Intn(3) {
	case 0:
		f.Regions = slices.Delete(f.Regions, i, i+1)
	case 1:
		if n := len(r.Places); n > 0 {
			k := d.Intn(n)
			r.Places = slices.Delete(r.Places, k, k+1)
		}
	case 2:
		r.Join = d.Intn(len(f.Code)+1) - 1
	}
}

// turnNumber changes one number somewhere in v, mostly to another label.
func (d *drawer) turnNumber(v reflect.Value, c *api.Class) {
	var found []reflect.Value
	var visit func(v reflect.Value)
	visit = func(v reflect.Value) {
		switch v.Kind() {
		case reflect.Int, reflect.Int64:
			found = append(found, v)
		case reflect.Struct:
			for i := range v.NumField() {
				visit(v.Field(i))
			}
		case reflect.Slice:
			for i := range v.Len() {
				visit(v.Index(i))
			}
		}
	}
	visit(v)
	n := found[d.Intn(len(found))]
	n.SetInt([]int64{n.Int() - 1, n.Int() + 1, int64(d.Intn(len(c.Lattice.Names)))}[d.Intn(3)])
}

// TestDrawnBehind (P17.3): what is accepted is so with more functions behind, up to as many as there may be; whatever these are, none of its own is told.
func TestDrawnBehind(t *testing.T) {
	d := newDrawer(172)
	told := map[api.Errno]int{}
	for range 1000 {
		c := d.class()
		if checked(c) != accepted {
			continue
		}
		more := roomy(c)
		for range 1 + d.Intn(3) {
			result := c.Funcs[0].Result
			if d.Intn(4) == 0 {
				result.Label = d.label()
			}
			more.Funcs = append(more.Funcs, loads(c.Lattice, c.Funcs[0].Result, result))
		}
		got := against(t, more)
		told[got.e]++
		if got.e != api.OK && got.function < len(c.Funcs) {
			t.Fatalf("with more behind %v is told: %+v", got, more)
		}
		twice := roomy(c)
		twice.Funcs = append(twice.Funcs, c.Funcs...)
		if got := against(t, twice); got != accepted {
			t.Fatalf("with the same behind %v is told: %+v", got, twice)
		}
		for k := range c.Funcs {
			if !slices.Equal(verify.Calls(c, k), verify.Calls(more, k)) {
				t.Fatalf("with more behind other calls are told: %+v", more)
			}
		}
		full := roomy(c)
		for len(full.Funcs) < api.MaxFuncs {
			full.Funcs = append(full.Funcs, c.Funcs[len(full.Funcs)%len(c.Funcs)])
		}
		if got := checked(full); got != accepted {
			t.Fatalf("with as many as may be %v is told: %+v", got, full)
		}
	}
	if told[api.OK] < 50 || told[api.ErrVerify] < 50 {
		t.Error("too few:", told)
	}
}

// loads is a function that gives what it is given, and is accepted, if that is below its Result.
func loads(l api.Lattice, param, result api.Type) api.Func {
	bottom := lattice.Bottom(l)
	return api.Func{
		Param: param, Result: result, Heap: bottom, Exc: none, Slots: 1,
		Code:   []api.Ins{op(api.OpLoad), op(api.OpReturn)},
		Points: []api.Point{{Slots: list(param), Env: bottom}, {Stack: list(param), Slots: list(param), Env: bottom}},
	}
}
