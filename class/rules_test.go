package class_test

import (
	"math"
	"math/rand"
	"reflect"
	"slices"
	"testing"

	"palisade/api"
	"palisade/class"
)

// callAll makes the calls that take classes.
func callAll(a, b api.Class) {
	class.Formed(a)
	class.Pool(a)
	class.Encode(a)
	class.Same(a, b)
}

// TestNothingPanics (R1): classes of all sorts.
func TestNothingPanics(t *testing.T) {
	for _, a := range samples() {
		for _, b := range samples() {
			callAll(a, b)
		}
		c := roomy(a)
		each(&c, func() { callAll(c, a) })
	}
	for _, n := range []int{math.MinInt, math.MinInt32, -1, 0, 1, math.MaxInt32, math.MaxInt} {
		odd := api.Type{Kind: n, Label: n, Heap: n, Exc: n, Parts: repeat(api.Type{Kind: n}, 3)}
		f := api.Func{
			Param: odd, Result: odd, Caps: []api.Type{odd}, Heap: n, Exc: n, Slots: n, Code: []api.Ins{{Op: n, A: int64(n), T: odd}},
			Handlers: []api.Handler{{From: n, To: n, At: n}}, Points: []api.Point{{Stack: []api.Type{odd}, Slots: []api.Type{odd}, Env: n}}, Regions: []api.Region{{At: n, Join: n, Places: []int{n}}},
		}
		for _, l := range append(lattices(), api.Lattice{}, api.Lattice{Names: []string{"low"}}, api.Lattice{Order: [][]bool{nil, {true}}}) {
			callAll(classOf(l, f), classOf(l, plain(), f))
		}
	}
}

// TestGreatTypes (P13.1, R1): types of very many nodes, in each place, aren't formed, and that is soon seen.
func TestGreatTypes(t *testing.T) {
	all := places()
	for name, put := range slotPlaces() {
		all[name] = put
	}
	for name, both := range great() {
		for where, put := range all {
			f := plain()
			put(&f, both[0])
			asks(t, name+" as "+where, classOf(single(), f), false)
			asks(t, name+" as "+where+", behind another", classOf(single(), plain(), f), false)
		}
	}
}

// TestGreatLists (P13.1, R1): lists that are far too long.
func TestGreatLists(t *testing.T) {
	const n = 300_000
	asks(t, "functions", classOf(single(), make([]api.Func, n)...), false)
	asks(t, "labels", classOf(api.Lattice{Names: make([]string, n), Order: make([][]bool, n)}, plain()), false)
	for name, f := range map[string]api.Func{
		"Caps": {Caps: make([]api.Type, n)}, "Code": {Code: make([]api.Ins, n)}, "Handlers": {Handlers: make([]api.Handler, n)}, "Points": {Points: make([]api.Point, n)}, "Regions": {Regions: make([]api.Region, n)},
		"Stack": {Points: []api.Point{{Stack: make([]api.Type, n), Slots: make([]api.Type, 1)}}}, "Slots": {Points: []api.Point{{Slots: make([]api.Type, n)}}}, "Places": {Regions: []api.Region{{Places: make([]int, n)}}},
	} {
		f.Param, f.Result, f.Slots = integer(0), integer(0), 1
		c := classOf(single(), f)
		if class.Formed(c) || len(class.Pool(c)) != 0 || !class.Same(c, c) {
			t.Error(name)
		}
		if b, e := class.Encode(c); e != api.ErrForm || len(b) != 0 {
			t.Error(name, e)
		}
	}
}

// TestFullClass (R1): as many functions as may be, with as many slots and Places as may be.
func TestFullClass(t *testing.T) {
	f := plain()
	f.Slots = 250
	f.Points = repeat(api.Point{Stack: repeat(tree(3), 8), Slots: repeat(integer(0), 250)}, 2000)
	f.Regions = repeat(api.Region{Places: make([]int, 2000)}, 2000)
	c := classOf(cube(), repeat(f, 60)...)
	if !class.Formed(c) || len(class.Pool(c)) != 3 {
		t.Error("a full class")
	}
	if b, e := class.Encode(c); e != api.ErrLong || len(b) != 0 {
		t.Error(e)
	}
}

// TestGreatBytes (P13.2, R1): as many bytes as may be, of all sorts: a great class, one that is cut, and such as go on alike for ever.
func TestGreatBytes(t *testing.T) {
	f := plain()
	f.Slots = 250
	f.Points = repeat(api.Point{Slots: repeat(forty(), 250)}, 519)
	c := classOf(single(), f)
	b := encoded(t, c)
	if back, e := class.Decode(b); e != api.OK || !class.Same(back, c) {
		t.Error("a great class:", e)
	}
	isBad(t, "cut", b[:len(b)-2])
	draw := rand.New(rand.NewSource(1))
	for n := range 60 {
		x := slices.Repeat(fields([]int{0, 1, 2, 3, 5, 250, 2000, 65535}[n%8]), api.MaxBytes/2)
		copy(x, b[:2+draw.Intn(200)])
		isBad(t, "alike for ever", x)
	}
}

// TestArgumentsAreLeft (R5): what is handed in is left as it is, its spare room too, and answers don't hang on that room.
func TestArgumentsAreLeft(t *testing.T) {
	for i, c := range samples() {
		a, b := roomy(c), roomy(c)
		before := whole(a)
		callAll(a, b)
		if !reflect.DeepEqual(whole(a), before) || !reflect.DeepEqual(whole(b), before) {
			t.Errorf("sample %d was changed", i)
		}
		x, e := class.Encode(a)
		y, d := class.Encode(c)
		if string(x) != string(y) || e != d || told(class.Pool(a)) != told(class.Pool(c)) {
			t.Errorf("sample %d: an answer hangs on spare room", i)
		}
		if e != api.OK {
			continue
		}
		for _, handed := range [][]byte{roomy(x), roomy(x[:len(x)-2])} {
			before := whole(handed)
			class.Decode(handed)
			if !reflect.DeepEqual(whole(handed), before) {
				t.Errorf("the bytes of sample %d were changed", i)
			}
		}
	}
}

// TestEmptyLists (R5): lists without elements may be nil or empty.
func TestEmptyLists(t *testing.T) {
	f := plain()
	f.Points, f.Regions, f.Code = []api.Point{{Slots: []api.Type{{}}}}, []api.Region{{}}, []api.Ins{{Op: api.OpPop}}
	g := roomy(f)
	none := []api.Type{}
	f.Param.Parts, f.Result.Parts, f.Caps, f.Code[0].T.Parts, f.Points[0].Stack, f.Points[0].Slots[0].Parts, f.Regions[0].Places, f.Handlers = none, none, none, none, none, none, []int{}, []api.Handler{}
	g.Param.Parts, g.Result.Parts, g.Caps, g.Code[0].T.Parts, g.Points[0].Stack, g.Points[0].Slots[0].Parts, g.Regions[0].Places, g.Handlers = nil, nil, nil, nil, nil, nil, nil, nil
	a, b := classOf(single(), f), classOf(single(), g)
	if !class.Formed(a) || !class.Formed(b) || !class.Same(a, b) || len(class.Pool(a)) != 1 || len(class.Pool(b)) != 1 || string(encoded(t, a)) != string(encoded(t, b)) {
		t.Error("nil and empty")
	}
}

// TestAnswersAreNewMemory (R5): no list of an answer shares memory with what was handed in, or with another one.
func TestAnswersAreNewMemory(t *testing.T) {
	d := &drawer{Rand: rand.New(rand.NewSource(135)), odd: never}
	two := pair(0, tree(3), tree(3))
	f := plain()
	f.Param, f.Result, f.Caps = two, two, []api.Type{two, two.Parts[0], two}
	f.Points = repeat(api.Point{Stack: []api.Type{two}, Slots: []api.Type{two}}, 3)
	all := []api.Class{full(), classOf(single(), f, f, f)}
	for range 200 {
		all = append(all, d.class())
	}
	for _, c := range all {
		c = roomy(c)
		if !apart(c, class.Pool(c)) {
			t.Fatalf("the pool shares memory: %+v", c)
		}
		b := encoded(t, c)
		b = roomy(b)
		back, e := class.Decode(b)
		if e != api.OK || !apart(b, back, c) {
			t.Fatalf("what is decoded shares memory: %+v", c)
		}
		again := encoded(t, back)
		if !apart(b, again, back) {
			t.Fatalf("the bytes share memory: %+v", c)
		}
		// What was answered stays as it is, when what was handed in is changed.
		clear(b)
		if !class.Same(back, c) || string(encoded(t, back)) != string(again) {
			t.Fatal("what is decoded hangs on the bytes")
		}
	}
	// A class whose own types share memory has a pool that doesn't.
	if pool := class.Pool(classOf(single(), f)); !apart(pool) {
		t.Error("types of the pool share memory")
	}
}
