package ir_test

import (
	"math"
	"math/rand"
	"reflect"
	"slices"
	"testing"

	"palisade/api"
	"palisade/ir"
)

// greatNodes are nodes of very many nodes: deep, wide, such as share memory, and rings.
func greatNodes() [][]ir.Node {
	deep, shared := flat(1), flat(1)
	for range 200_000 {
		deep = listOf(ir.Node{Op: 16, Body: deep})
	}
	for range 1000 {
		shared = listOf(ir.Node{Op: 16, Body: shared, Else: shared})
	}
	wide := flat(2000)
	for range 60 {
		wide = slices.Repeat(listOf(ir.Node{Op: 17, Body: wide, Else: wide}), 2000)
	}
	ring, other, beside := make([]ir.Node, 1), make([]ir.Node, 1), make([]ir.Node, 3)
	ring[0] = ir.Node{Op: 16, Body: ring}
	other[0] = ir.Node{Op: 17, Else: other}
	beside[0], beside[2] = ir.Node{Op: 1}, ir.Node{Op: 1, Body: beside, Else: beside}
	return [][]ir.Node{deep, shared, wide, flat(200_000), ring, other, beside}
}

// greatTypes are types of very many nodes: deep, wide, such as share memory, and rings.
func greatTypes() []api.Type {
	ring, wide := make([]api.Type, 1), make([]api.Type, 1000)
	ring[0] = api.Type{Kind: api.Ref, Parts: ring}
	for i := range wide {
		wide[i] = api.Type{Kind: api.Pair, Parts: wide}
	}
	shared, both := integer(0), make([]api.Type, 2)
	for range 1000 {
		shared = pair(0, shared, shared)
	}
	both[0], both[1] = fun(0, integer(0), integer(0), 0, 0), api.Type{Kind: api.Fun, Parts: both}
	return []api.Type{ring[0], wide[7], shared, both[1], refs(300_000), {Kind: api.Pair, Parts: make([]api.Type, 300_000)}}
}

// TestNothingPanics (R1): arguments of all sorts and sizes.
func TestNothingPanics(t *testing.T) {
	good := ir.Fn{Param: integer(0), Result: integer(0), Exc: none, Caps: typesOf(boolean(0)), Slots: typesOf(integer(0), boolean(0), integer(0), ref(0, integer(0)))}
	answers(t, "good", chain(), []ir.Fn{good}, 0, api.OK)
	for _, body := range greatNodes() {
		if got := ir.Count(body); got != 4097 {
			t.Errorf("%d nodes", got)
		}
		f := good
		f.Body = body
		answers(t, "great", chain(), []ir.Fn{f}, -1, api.ErrForm)
		f.Body = listOf(ir.Node{Op: 16, A: 1, Else: body})
		answers(t, "great within", chain(), []ir.Fn{good, f}, -1, api.ErrForm)
	}
	for _, odd := range append(greatTypes(), unformedTypes()...) {
		for i, change := range []func(f *ir.Fn){
			func(f *ir.Fn) { f.Param = odd }, func(f *ir.Fn) { f.Result = odd }, func(f *ir.Fn) { f.Caps[0] = odd }, func(f *ir.Fn) { f.Slots[2] = odd }, func(f *ir.Fn) { f.Slots[1], f.Caps[0] = odd, odd },
			func(f *ir.Fn) { f.Param, f.Slots[0] = odd, odd }, func(f *ir.Fn) { f.Body = listOf(ir.Node{Op: 12, Dst: 3, T: odd}) }, func(f *ir.Fn) { f.Caps = slices.Repeat(typesOf(odd), 100_000) }, func(f *ir.Fn) { f.Slots = slices.Repeat(typesOf(odd), 100_000) },
		} {
			f := good
			f.Caps, f.Slots = slices.Clone(f.Caps), slices.Clone(f.Slots)
			change(&f)
			answers(t, "odd", chain(), []ir.Fn{f}, -1, api.ErrForm)
			if got := ir.Sig(chain(), f); (got.Kind == api.Fun) != (i != 0 && i != 1 && i != 5) {
				t.Error(got.Kind)
			}
		}
	}
	answers(t, "very many functions", chain(), make([]ir.Fn, 1_000_000), -1, api.ErrForm)
	answers(t, "zero", chain(), make([]ir.Fn, 1), -1, api.ErrForm)
	answers(t, "all zero", api.Lattice{}, make([]ir.Fn, 1), -1, api.ErrForm)
}

// TestAnyNumbers (R1): nodes and functions whose numbers are all drawn, of each Op, in all sorts of lattices.
func TestAnyNumbers(t *testing.T) {
	draw := rand.New(rand.NewSource(6))
	numbers := []int{0, 0, 0, 1, 1, 2, 3, 4, 5, 6, 7, 8, 12, 16, 17, 18, 249, 250, -1, -1, -2, math.MaxInt, math.MinInt, 1 << 32}
	number := func() int { return numbers[draw.Intn(len(numbers))] }
	all := append(lattices(), unformedLattices()...)
	some := append(unformedTypes(), integer(0), boolean(1), pair(0, integer(0), boolean(0)), ref(1, integer(1)), fun(0, integer(0), integer(0), 0, none))
	var body func(deep int) []ir.Node
	body = func(deep int) []ir.Node {
		var made []ir.Node
		for range draw.Intn(4) {
			n := ir.Node{Op: draw.Intn(20), Dst: number(), A: number(), B: number(), N: int64(number()), Env: number(), T: some[draw.Intn(len(some))], Args: []int{number(), number()}[:draw.Intn(3)]}
			if deep > 1 {
				n.Body, n.Else = body(deep-1), body(deep-1)
			}
			made = append(made, n)
		}
		return made
	}
	for range 20_000 {
		var fns []ir.Fn
		for range draw.Intn(3) {
			f := ir.Fn{Param: some[draw.Intn(len(some))], Result: some[draw.Intn(len(some))], Heap: number(), Exc: number(), Body: body(3), Out: number()}
			f.Slots = append(f.Slots, f.Param)
			for range draw.Intn(4) {
				f.Slots = append(f.Slots, some[draw.Intn(len(some))])
			}
			f.Caps = f.Slots[1:][:draw.Intn(len(f.Slots))]
			fns = append(fns, f)
		}
		l := all[draw.Intn(len(all))]
		k, e := ir.Check(l, fns)
		if shaped := ir.Shaped(l, fns); shaped == (e == api.ErrForm) || shaped && (k < 0 || k >= len(fns)) || !shaped && k != -1 {
			t.Fatalf("%+v: %v, %d, error %d", fns, shaped, k, e)
		}
		for _, f := range fns {
			ir.Sig(l, f)
		}
	}
}

// TestFullFunctions (R1): as many functions, nodes, slots and Args as may be are soon checked.
func TestFullFunctions(t *testing.T) {
	high := tree(5)
	f := ir.Fn{Param: integer(0), Result: integer(0), Exc: none, Caps: slices.Repeat(typesOf(high), 16)}
	f.Slots = append(append(typesOf(integer(0)), f.Caps...), slices.Repeat(typesOf(fun(0, integer(0), integer(0), 0, none)), 233)...)
	args := make([]int, 16)
	for i := range args {
		args[i] = i + 1
	}
	for i := range 4096 {
		n := ir.Node{Op: 9, N: int64(i % 60), Dst: 17 + i%233}
		if i%60 == 0 {
			n.Args = args
		} else {
			n.Op = 10
		}
		f.Body = append(f.Body, n)
	}
	answers(t, "full", chain(), slices.Repeat([]ir.Fn{f}, 60), 0, api.OK)
}

// room is a list with spare room in which something stands.
func room[T any](list []T, more T) []T {
	return append(append(make([]T, 0, len(list)+2), list...), more, more)[:len(list)]
}

func roomyType(t api.Type) api.Type {
	parts := make([]api.Type, 0, len(t.Parts))
	for _, part := range t.Parts {
		parts = append(parts, roomyType(part))
	}
	t.Parts = room(parts, integer(9))
	return t
}

func roomyTypes(all []api.Type) []api.Type {
	var made []api.Type
	for _, t := range all {
		made = append(made, roomyType(t))
	}
	return room(made, boolean(7))
}

func roomyNodes(body []ir.Node) []ir.Node {
	var made []ir.Node
	for _, n := range body {
		n.T, n.Args, n.Body, n.Else = roomyType(n.T), room(n.Args, 3), roomyNodes(n.Body), roomyNodes(n.Else)
		made = append(made, n)
	}
	return room(made, ir.Node{Op: 18, Dst: 5})
}

// roomy is functions and their lattice in lists that all have spare room with something in it.
func roomy(l api.Lattice, fns []ir.Fn) (api.Lattice, []ir.Fn) {
	var rows [][]bool
	for _, row := range l.Order {
		rows = append(rows, room(row, true))
	}
	var made []ir.Fn
	for _, f := range fns {
		f.Param, f.Result, f.Caps, f.Slots, f.Body = roomyType(f.Param), roomyType(f.Result), roomyTypes(f.Caps), roomyTypes(f.Slots), roomyNodes(f.Body)
		made = append(made, f)
	}
	return api.Lattice{Names: room(l.Names, "spare"), Order: room(rows, []bool{true})}, room(made, ir.Fn{Out: 4})
}

// whole is v with all lists as long as their room, in memory of its own.
func whole(v reflect.Value) reflect.Value {
	made := reflect.New(v.Type()).Elem()
	switch v.Kind() {
	case reflect.Struct:
		for i := range v.NumField() {
			made.Field(i).Set(whole(v.Field(i)))
		}
	case reflect.Slice:
		made.Set(reflect.MakeSlice(v.Type(), v.Cap(), v.Cap()))
		for i := range v.Cap() {
			made.Index(i).Set(whole(v.Slice(0, v.Cap()).Index(i)))
		}
	default:
		made.Set(v)
	}
	return made
}

func wholes(all ...any) []any {
	var made []any
	for _, v := range all {
		made = append(made, whole(reflect.ValueOf(v)).Interface())
	}
	return made
}

// plain is t with nil for each list of no elements.
func plain(t api.Type) api.Type {
	var parts []api.Type
	for _, part := range t.Parts {
		parts = append(parts, plain(part))
	}
	t.Parts = parts
	return t
}

// TestArgumentsAreLeft (R5): what is handed in is left as it is, its spare room too, and no answer hangs on that.
func TestArgumentsAreLeft(t *testing.T) {
	draw := rand.New(rand.NewSource(5))
	for n := range 2000 {
		l, fns := drawnFns(draw)
		if n%7 == 0 {
			fns[0].Out = -4
		}
		l2, fns2 := roomy(l, fns)
		before := wholes(l2, fns2)
		k, e := ir.Check(l, fns)
		k2, e2 := ir.Check(l2, fns2)
		if k != k2 || e != e2 || ir.Shaped(l, fns) != ir.Shaped(l2, fns2) {
			t.Fatalf("%+v: an answer hangs on spare room", fns)
		}
		for i, f := range fns {
			if ir.Count(f.Body) != ir.Count(fns2[i].Body) || !reflect.DeepEqual(plain(ir.Sig(l, f)), plain(ir.Sig(l2, fns2[i]))) {
				t.Fatalf("%+v: an answer hangs on spare room", f)
			}
		}
		if !reflect.DeepEqual(before, wholes(l2, fns2)) {
			t.Fatalf("%+v was changed", fns)
		}
	}
}

// stands adds where the members of all lists of a type stand, spare room too, to those that are known, and tells whether they were unknown.
func stands(t api.Type, known map[*api.Type]int) bool {
	parts := t.Parts[:cap(t.Parts)]
	for i := range parts {
		if known[&parts[i]]++; known[&parts[i]] > 1 || !stands(parts[i], known) {
			return false
		}
	}
	return true
}

// TestNewMemory (R5): what Sig answers shares no memory with what was handed in, within itself, or with a later answer, and one that is changed changes nothing.
func TestNewMemory(t *testing.T) {
	draw := rand.New(rand.NewSource(55))
	for range 2000 {
		l, fns := roomy(drawnFns(draw))
		before := wholes(l, fns)
		known := map[*api.Type]int{}
		for _, f := range fns {
			if !stands(f.Param, known) || !stands(f.Result, known) {
				t.Fatal("shared from the beginning")
			}
		}
		first, second := ir.Sig(l, fns[0]), ir.Sig(l, fns[0])
		if !stands(first, known) || !stands(second, known) {
			t.Fatalf("%+v: memory is shared", fns[0])
		}
		for i := range first.Parts {
			for j := range first.Parts[i].Parts {
				first.Parts[i].Parts[j] = api.Type{}
			}
			first.Parts[i] = api.Type{}
		}
		if !reflect.DeepEqual(before, wholes(l, fns)) || !reflect.DeepEqual(plain(second), plain(ir.Sig(l, fns[0]))) {
			t.Fatalf("%+v: something was changed", fns[0])
		}
	}
	both := pair(1, ref(0, integer(0)), boolean(1))
	same := pair(0, both, both)
	if got := ir.Sig(chain(), ir.Fn{Param: same, Result: same, Exc: none}); !reflect.DeepEqual(got, fun(0, same, same, 0, none)) || !stands(got, map[*api.Type]int{}) {
		t.Error("memory is shared within", got)
	}
}

// TestNoElements (R5): a list of no elements may be nil or empty.
func TestNoElements(t *testing.T) {
	f := lone(1)
	f.Caps, f.Slots = []api.Type{}, f.Slots[:1]
	f.Body = []ir.Node{}
	answers(t, "empty", sets(), []ir.Fn{f}, 0, api.OK)
	f.Caps, f.Body = nil, nil
	answers(t, "nil", sets(), []ir.Fn{f}, 0, api.OK)
	for _, body := range [][]ir.Node{nil, {}} {
		for _, args := range [][]int{nil, {}} {
			g := lone(16)
			g.Body[0].Body, g.Body[0].Else, g.Body[0].Args = body, body, args
			answers(t, "no nodes", sets(), []ir.Fn{g}, 0, api.OK)
			f.Slots = typesOf(f.Param, fun(lO, f.Param, f.Result, lO, lABC))
			f.Body = listOf(ir.Node{Op: 9, Dst: 1, Args: args, Env: lO})
			answers(t, "no Args", sets(), []ir.Fn{f}, 0, api.OK)
		}
	}
}

// TestAgain: what is answered hangs on nothing but what is given.
func TestAgain(t *testing.T) {
	draw := rand.New(rand.NewSource(8))
	for range 500 {
		l, fns := drawnFns(draw)
		k, e := ir.Check(l, fns)
		drawnFns(draw)
		if k2, e2 := ir.Check(l, fns); k != k2 || e != e2 {
			t.Fatalf("%+v: %d, error %d; then %d, error %d", fns, k, e, k2, e2)
		}
	}
}
