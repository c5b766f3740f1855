package class_test

import (
	"math"
	"testing"

	"palisade/api"
	"palisade/class"
)

// asks holds Formed, and what hangs on it, against what is wanted.
func asks(t *testing.T, name string, c api.Class, want bool) {
	t.Helper()
	if got, ref := class.Formed(c), refFormed(c); got != want || ref != want {
		t.Errorf("%s: Formed is %v, the reference %v", name, got, ref)
	}
	pool := class.Pool(c)
	b, e := class.Encode(c)
	if want && (len(pool) == 0 || e != api.OK && e != api.ErrLong) {
		t.Errorf("%s: a pool of %d, error %d", name, len(pool), e)
	}
	if !want && (len(pool) != 0 || len(b) != 0 || e != api.ErrForm) {
		t.Errorf("%s: a pool of %d, %d bytes, error %d", name, len(pool), len(b), e)
	}
}

// changed asks it of a plain function that was changed: alone, behind others, and ahead of one.
func changed(t *testing.T, name string, want bool, change func(f *api.Func)) {
	t.Helper()
	f := plain()
	change(&f)
	asks(t, name, classOf(diamond(), f), want)
	asks(t, name+", behind others", classOf(diamond(), plain(), plain(), f), want)
	asks(t, name+", ahead of another", classOf(diamond(), f, plain()), want)
}

// TestFormed (P13.1): ordinary classes.
func TestFormed(t *testing.T) {
	asks(t, "full", full(), true)
	for _, l := range lattices() {
		asks(t, "plain", classOf(l, plain()), true)
	}
}

// TestFormedLattice (P13.1): the lattice is formed.
func TestFormedLattice(t *testing.T) {
	for name, l := range map[string]api.Lattice{
		"zero":        {},
		"no order":    {Names: []string{"low"}},
		"no names":    {Order: [][]bool{{true}}},
		"not below":   {Names: []string{"low"}, Order: [][]bool{{false}}},
		"both ways":   {Names: []string{"low", "high"}, Order: [][]bool{{true, true}, {true, true}}},
		"no join":     {Names: []string{"low", "high"}, Order: [][]bool{{true, false}, {false, true}}},
		"no name":     {Names: []string{"9"}, Order: [][]bool{{true}}},
		"empty name":  {Names: []string{""}, Order: [][]bool{{true}}},
		"names alike": {Names: []string{"low", "low"}, Order: [][]bool{{true, true}, {false, true}}},
		"ragged":      {Names: []string{"low", "high"}, Order: [][]bool{{true, true}, {}}},
	} {
		asks(t, name, classOf(l, plain()), false)
	}
	nine := api.Lattice{Names: []string{"a", "b", "c", "d", "e", "f", "g", "h", "i"}}
	for a := range 9 {
		row := make([]bool, 9)
		for b := a; b < 9; b++ {
			row[b] = true
		}
		nine.Order = append(nine.Order, row)
	}
	asks(t, "nine labels", classOf(nine, plain()), false)
}

// TestFormedCounts (P13.1): how many there may be of each, and one more.
func TestFormedCounts(t *testing.T) {
	asks(t, "no functions", classOf(chain()), false)
	for n := 1; n <= 61; n++ {
		asks(t, "functions", classOf(chain(), repeat(plain(), n)...), n <= 60)
	}
	for n := range 20 {
		changed(t, "Caps", n <= 16, func(f *api.Func) { f.Caps = repeat(boolean(0), n) })
		changed(t, "a Stack", n <= 8, func(f *api.Func) {
			f.Points = []api.Point{{Stack: repeat(integer(1), n), Slots: []api.Type{integer(0)}}}
		})
	}
	for _, n := range []int{0, 1, 2, 1999, 2000, 2001, 2002, 4000} {
		want := n <= 2000
		changed(t, "instructions", want, func(f *api.Func) { f.Code = repeat(api.Ins{Op: api.OpPop}, n) })
		changed(t, "handlers", want, func(f *api.Func) { f.Handlers = make([]api.Handler, n) })
		changed(t, "points", want, func(f *api.Func) { f.Points = repeat(api.Point{Slots: []api.Type{integer(0)}}, n) })
		changed(t, "regions", want, func(f *api.Func) { f.Regions = make([]api.Region, n) })
		changed(t, "Places", want, func(f *api.Func) { f.Regions = []api.Region{{}, {Places: make([]int, n)}} })
	}
	// As many of each as there may be, beside one another.
	changed(t, "all of them", true, func(f *api.Func) {
		f.Caps, f.Slots = repeat(boolean(0), 16), 250
		f.Code = repeat(api.Ins{Op: api.OpPop}, 2000)
		f.Handlers = make([]api.Handler, 2000)
		f.Points = repeat(api.Point{Stack: repeat(forty(), 8), Slots: repeat(integer(0), 250)}, 2000)
		f.Regions = repeat(api.Region{Places: make([]int, 2000)}, 2000)
	})
}

// TestFormedSlots (P13.1): 1 to MaxSlots, and as many in each point.
func TestFormedSlots(t *testing.T) {
	for _, n := range []int{math.MinInt, -250, -2, -1, 0, 1, 2, 249, 250, 251, 65535, 65536, math.MaxInt} {
		changed(t, "Slots", n >= 1 && n <= 250, func(f *api.Func) { f.Slots = n })
		for _, d := range []int{-1, 0, 1} {
			if n < 0 || n+d < 0 || n > 300 {
				continue
			}
			want := d == 0 && n >= 1 && n <= 250
			changed(t, "a point's Slots", want, func(f *api.Func) {
				f.Slots = n
				f.Points = []api.Point{{Slots: make([]api.Type, n+d)}}
			})
			changed(t, "a later point's Slots", want, func(f *api.Func) {
				f.Slots = n
				f.Points = []api.Point{{Slots: make([]api.Type, n)}, {Slots: make([]api.Type, n+d)}}
			})
		}
	}
	// A function without points needs no slots' types; one's Slots say nothing of the other's.
	other := plain()
	other.Slots, other.Points = 2, []api.Point{{Slots: make([]api.Type, 2)}}
	mine := plain()
	mine.Points = []api.Point{{Slots: make([]api.Type, 1)}}
	asks(t, "unlike functions", classOf(single(), mine, other, mine), true)
	mine.Points, other.Points = other.Points, mine.Points
	asks(t, "turned points", classOf(single(), mine, other), false)
}

// TestFormedLabels (P13.1): Heap and Env are labels, Exc is one or None.
func TestFormedLabels(t *testing.T) {
	for _, n := range []int{math.MinInt, -65536, -2, -1, 0, 1, 2, 3, 4, 5, 7, 8, 65535, math.MaxInt} {
		label := n >= 0 && n <= 3
		changed(t, "Heap", label, func(f *api.Func) { f.Heap = n })
		changed(t, "Exc", label || n == none, func(f *api.Func) { f.Exc = n })
		changed(t, "Env", label, func(f *api.Func) {
			f.Points = []api.Point{{Slots: []api.Type{integer(0)}}, {Slots: []api.Type{integer(0)}, Env: n}}
		})
		changed(t, "a Label", label, func(f *api.Func) { f.Param = integer(n) })
	}
}

// places are where types stand, each by what puts one there.
func places() map[string]func(f *api.Func, t api.Type) {
	return map[string]func(f *api.Func, t api.Type){
		"Param":     func(f *api.Func, t api.Type) { f.Param = t },
		"Result":    func(f *api.Func, t api.Type) { f.Result = t },
		"Caps":      func(f *api.Func, t api.Type) { f.Caps = []api.Type{t} },
		"last Caps": func(f *api.Func, t api.Type) { f.Caps = append(repeat(boolean(1), 15), t) },
		"T":         func(f *api.Func, t api.Type) { f.Code = []api.Ins{{Op: api.OpPop}, {Op: api.OpNew, T: t}} },
		"Stack":     func(f *api.Func, t api.Type) { f.Points = points(t, api.Type{}) },
		"last Stack": func(f *api.Func, t api.Type) {
			f.Points = points(integer(0), integer(0))
			f.Points[0].Stack = append(repeat(boolean(1), 7), t)
		},
		"a later Stack": func(f *api.Func, t api.Type) {
			f.Points = append(points(integer(0), integer(0)), points(t, integer(0))...)
		},
	}
}

// slotPlaces are those where the zero type may stand too.
func slotPlaces() map[string]func(f *api.Func, t api.Type) {
	return map[string]func(f *api.Func, t api.Type){
		"a slot": func(f *api.Func, t api.Type) { f.Points = points(integer(0), t) },
		"a later slot": func(f *api.Func, t api.Type) {
			f.Points = append(points(integer(0), integer(0)), points(integer(0), t)...)
		},
		"an earlier one": func(f *api.Func, t api.Type) {
			f.Points = append(points(integer(0), t), points(integer(0), integer(0))...)
		},
		"the last slot": func(f *api.Func, t api.Type) {
			f.Slots = 250
			f.Points = repeat(api.Point{Slots: make([]api.Type, 250)}, 3)
			f.Points[2].Slots = append(repeat(integer(0), 249), t)
		},
	}
}

// points is one point, of one type on the Stack and one slot.
func points(stack, slot api.Type) []api.Point {
	return []api.Point{{Stack: []api.Type{stack}, Slots: []api.Type{slot}}}
}

// TestFormedTypes (P13.1): types that are formed, that aren't, and the zero type, in each place where one stands.
func TestFormedTypes(t *testing.T) {
	formed := []api.Type{integer(0), integer(3), boolean(2), pair(3, integer(0), boolean(1)), ref(1, ref(0, integer(0))), fun(0, integer(0), integer(0), 0, none), fun(3, integer(1), boolean(2), 3, 3), forty(), refs(6, integer(0)), {Kind: api.Int, Parts: []api.Type{}}}
	unformed := []api.Type{
		{Kind: 6}, {Kind: -1}, {Kind: math.MaxInt}, {Kind: math.MinInt}, {Label: 1}, {Label: none}, {Heap: 1}, {Exc: none}, {Parts: []api.Type{{}}}, {Parts: []api.Type{integer(0)}},
		integer(4), integer(none), integer(math.MinInt), {Kind: api.Int, Heap: 1}, {Kind: api.Bool, Exc: none}, {Kind: api.Int, Exc: 1},
		{Kind: api.Int, Parts: []api.Type{integer(0)}}, {Kind: api.Bool, Parts: []api.Type{{}}}, {Kind: api.Pair}, {Kind: api.Ref}, {Kind: api.Fun},
		{Kind: api.Pair, Parts: repeat(integer(0), 1)}, {Kind: api.Pair, Parts: repeat(integer(0), 3)}, {Kind: api.Ref, Parts: repeat(integer(0), 2)}, {Kind: api.Fun, Parts: repeat(integer(0), 1), Exc: none}, {Kind: api.Fun, Parts: repeat(integer(0), 3)},
		pair(0, integer(0), integer(4)), pair(0, api.Type{}, integer(0)), ref(0, api.Type{}), ref(4, integer(0)), fun(0, integer(0), integer(0), none, 0), fun(0, integer(0), integer(0), 4, 0), fun(0, integer(0), integer(0), 0, 4), fun(0, integer(0), integer(0), 0, -2), fun(4, integer(0), integer(0), 0, 0),
		{Kind: api.Pair, Parts: repeat(integer(0), 2), Heap: 1}, {Kind: api.Ref, Parts: repeat(integer(0), 1), Exc: none},
		fortyOne(), tree(6), refs(7, integer(0)),
	}
	both := places()
	for name, put := range slotPlaces() {
		both[name] = put
		changed(t, "the zero type as "+name, true, func(f *api.Func) { put(f, api.Type{}) })
		changed(t, "the zero type, its list empty, as "+name, true, func(f *api.Func) { put(f, api.Type{Parts: []api.Type{}}) })
	}
	for name, put := range places() {
		changed(t, "the zero type as "+name, false, func(f *api.Func) { put(f, api.Type{}) })
	}
	for name, put := range both {
		for _, x := range formed {
			changed(t, name+" of "+told(x), true, func(f *api.Func) { put(f, x) })
		}
		for _, x := range unformed {
			changed(t, name+" of "+told(x), false, func(f *api.Func) { put(f, x) })
		}
	}
}

// TestFormedLikeOthers (P13.1): types that may not be formed, where those stand ahead, in the same place and others, that are as like them as may be.
func TestFormedLikeOthers(t *testing.T) {
	known := []api.Type{integer(0), integer(3), boolean(0), pair(0, integer(0), integer(0)), ref(0, integer(0)), fun(0, integer(0), integer(0), 0, none), fun(0, integer(0), integer(0), 3, 3), tree(3), ref(0, tree(3)), refs(6, integer(0)), forty()}
	seen := map[bool]int{}
	for _, first := range known {
		x := roomy(first)
		each(&x, func() {
			f := plain()
			f.Caps = known
			f.Points = append(points(integer(0), first), points(integer(0), x)...)
			c := classOf(diamond(), f)
			want := refFormed(c)
			if seen[want]++; class.Formed(c) != want {
				t.Errorf("not %v: %v", want, x)
			}
			f.Points[1].Stack[0], f.Points[1].Slots[0] = x, first
			if want = refFormed(c); class.Formed(c) != want {
				t.Errorf("not %v on the Stack: %v", want, x)
			}
		})
	}
	if seen[true] < 300 || seen[false] < 3000 {
		t.Error(seen)
	}
}

// numbersOf are the A that each Op may have, from the least to the greatest; those that aren't there have 0 alone.
var numbersOf = map[int][2]int64{
	api.OpInt: {math.MinInt64, math.MaxInt64}, api.OpBool: {0, 1}, api.OpLoad: {0, maxShort}, api.OpStore: {0, maxShort}, api.OpClose: {0, maxShort}, api.OpOut: {0, maxShort}, api.OpJump: {0, maxShort}, api.OpUnless: {0, maxShort},
}

// TestFormedInstructions (P13.1): each Op, and such as are none, with each A and T.
func TestFormedInstructions(t *testing.T) {
	for _, op := range []int{math.MinInt, -1, 0, 1, 2, 3, 4, 5, 6, 7, 8, 9, 10, 11, 12, 13, 14, 15, 16, 17, 18, 19, 20, 21, 22, 23, 24, 25, 26, 27, 28, 29, 65535, 65536 + 1, math.MaxInt} {
		bounds := numbersOf[op]
		for _, a := range []int64{math.MinInt64, math.MinInt32, -65536, -65535, -2, -1, 0, 1, 2, 3, 255, 256, 65534, 65535, 65536, 65537, 1 << 32, math.MaxInt64} {
			for _, x := range []api.Type{{}, {Parts: []api.Type{}}, integer(0), ref(0, boolean(3)), {Kind: 9}, {Label: 1}, {Heap: 1}, {Exc: none}, {Parts: repeat(integer(0), 1)}, integer(4), fortyOne()} {
				want := op >= 1 && op <= 27 && a >= bounds[0] && a <= bounds[1]
				if op == api.OpNew {
					want = want && (told(x) == told(integer(0)) || told(x) == told(ref(0, boolean(3))))
				} else {
					want = want && told(x) == told(api.Type{})
				}
				f := plain()
				f.Code = []api.Ins{{Op: api.OpNot}, {Op: op, A: a, T: x}, {Op: api.OpNot}}
				c := classOf(diamond(), plain(), f)
				if class.Formed(c) != want || refFormed(c) != want {
					t.Errorf("Op %d, A %d, T %v: %v", op, a, x, !want)
				}
			}
		}
	}
}

// TestFormedNumbers (P13.1): the numbers of handlers and regions.
func TestFormedNumbers(t *testing.T) {
	for _, n := range []int{math.MinInt, -65536, -65535, -2, -1, 0, 1, 2000, 2001, 65533, 65534, 65535, 65536, 65537, 1 << 32, math.MaxInt} {
		short := n >= 0 && n <= 65535
		for i, h := range []api.Handler{{From: n}, {To: n}, {At: n}, {From: n, To: n, At: n}} {
			changed(t, "handler "+told(i), short, func(f *api.Func) { f.Handlers = []api.Handler{h} })
			changed(t, "later handler "+told(i), short, func(f *api.Func) { f.Handlers = []api.Handler{{}, {From: 1, To: 2, At: 3}, h} })
		}
		changed(t, "a region's At", short, func(f *api.Func) { f.Regions = []api.Region{{}, {At: n}} })
		changed(t, "a Join", n >= -1 && n <= 65534, func(f *api.Func) { f.Regions = []api.Region{{}, {Join: n}} })
		changed(t, "a first Join", n >= -1 && n <= 65534, func(f *api.Func) { f.Regions = []api.Region{{Join: n}, {}} })
		for i := range 3 {
			changed(t, "a Place", short, func(f *api.Func) {
				list := []int{3, 2, 2}
				list[i] = n
				f.Regions = []api.Region{{}, {Places: list}}
			})
		}
	}
	changed(t, "the last Place", false, func(f *api.Func) {
		list := make([]int, 2000)
		list[1999] = -1
		f.Regions = append(make([]api.Region, 1999), api.Region{Places: list})
	})
}

// TestFormedNeedsNoMore (P13.1): what layer 14 asks isn't asked here.
func TestFormedNeedsNoMore(t *testing.T) {
	changed(t, "no code, but points", true, func(f *api.Func) { f.Points = points(integer(0), integer(1)) })
	changed(t, "code without points", true, func(f *api.Func) { f.Code = repeat(api.Ins{Op: api.OpJump, A: 60000}, 9) })
	changed(t, "more Caps than slots", true, func(f *api.Func) { f.Caps = repeat(integer(0), 16) })
	changed(t, "what is nowhere", true, func(f *api.Func) {
		f.Code = []api.Ins{{Op: api.OpClose, A: 77}, {Op: api.OpOut, A: 9}, {Op: api.OpLoad, A: 999}}
		f.Handlers = []api.Handler{{From: 9, To: 3, At: 1}, {}}
		f.Regions = []api.Region{{At: 7, Join: 7, Places: []int{9, 7, 7, 0}}, {At: 7}, {At: 2}}
	})
}

// TestFormedEachNumber (P13.1): each number of a class in which all stands, at and around each edge.
func TestFormedEachNumber(t *testing.T) {
	c := roomy(full())
	seen := map[bool]int{}
	each(&c, func() {
		want := refFormed(c)
		if seen[want]++; class.Formed(c) != want {
			t.Errorf("not %v: %+v", want, c)
		}
	})
	if seen[true] < 500 || seen[false] < 500 {
		t.Error(seen)
	}
}
