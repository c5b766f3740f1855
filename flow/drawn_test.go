package flow_test

import (
	"math"
	"math/rand"
	"slices"
	"testing"

	"palisade/api"
	"palisade/flow"
)

// drawer draws functions, whose jumps go forward but for one in so many, and whose handlers mostly do.
type drawer struct {
	*rand.Rand
	odd int
}

// number is one at least from and below to, or now and then any other.
func (d *drawer) number(from, to int) int {
	if from >= to || d.Intn(d.odd) == 0 {
		return []int{from - 1, to, to + 1, none, 0, d.Intn(max(to, 1)), math.MinInt, math.MaxInt}[d.Intn(8)]
	}
	return from + d.Intn(to-from)
}

func (d *drawer) function() api.Func {
	n := d.Intn(12)
	var f api.Func
	for at := range n {
		f.Code = append(f.Code, d.instruction(at, n))
	}
	for range d.Intn(4) {
		from := d.Intn(n + 1)
		f.Handlers = append(f.Handlers, api.Handler{From: d.number(from, from+1), To: d.number(from+1, n+1), At: d.number(n/2, n)})
	}
	return f
}

func (d *drawer) instruction(at, n int) api.Ins {
	which := []int{api.OpInt, api.OpStore, api.OpCall, api.OpCall, api.OpDiv, api.OpMod, api.OpRaise, api.OpReturn, api.OpJump, api.OpUnless, api.OpUnless}[d.Intn(11)]
	if d.Intn(d.odd) == 0 {
		which = numbers()[d.Intn(len(numbers()))]
	}
	return op(which, d.number(at+1, n))
}

func (d *drawer) raises(n int) []bool {
	all := make([]bool, d.Intn(n+3))
	for at := range all {
		all[at] = d.Intn(2) == 0
	}
	return all
}

// places are some, with such as are none among them, in any order.
func (d *drawer) places(n int) []int {
	var all []int
	for range d.Intn(4) {
		all = append(all, d.number(0, n))
	}
	return all
}

// eachDrawn asks of functions that are drawn, of ordinary ones and of odd ones.
func eachDrawn(seed int64, ask func(d *drawer, f api.Func, raises []bool)) {
	for _, odd := range []int{3, 12, 1 << 40} {
		d := &drawer{Rand: rand.New(rand.NewSource(seed)), odd: odd}
		for range 8000 {
			f := d.function()
			ask(d, f, d.raises(len(f.Code)))
		}
	}
}

// TestDrawnPlaces (P15.1, P15.3): all places of drawn functions, and those around.
func TestDrawnPlaces(t *testing.T) {
	seen := map[int]int{}
	eachDrawn(15, func(d *drawer, f api.Func, raises []bool) {
		for at := -2; at < len(f.Code)+2; at++ {
			ways := flow.Ways(f, raises, at)
			if want := refWays(f, raises, at); !slices.Equal(ways, want) {
				t.Fatalf("the ways from %d are %v, not %v: %+v", at, ways, want, f)
			}
			if flow.Handler(f, at) != refHandler(f, at) || flow.Raises(f, raises, at) != refRaises(f, raises, at) ||
				flow.Leaves(f, raises, at) != refLeaves(f, raises, at) || flow.Branches(f, raises, at) != refBranches(f, raises, at) {
				t.Fatalf("at %d, RAISES %v: %+v", at, raises, f)
			}
			seen[len(ways)]++
		}
	})
	if len(seen) != 3 || seen[2] < 5000 {
		t.Error("too few:", seen)
	}
}

// TestDrawnReach (P15.2): drawn functions, places and stops.
func TestDrawnReach(t *testing.T) {
	long := 0
	eachDrawn(151, func(d *drawer, f api.Func, raises []bool) {
		from, stop := d.places(len(f.Code)), d.number(0, len(f.Code))
		got := flow.Reach(f, raises, from, stop)
		if want := refReach(f, raises, from, stop); !slices.Equal(got, want) {
			t.Fatalf("from %v, stop %d: %v, not %v: %+v", from, stop, got, want, f)
		}
		if len(got) > 4 {
			long++
		}
	})
	if long < 2000 {
		t.Error("too few:", long)
	}
}

// TestClosed (P15.4): each way from what is reached that isn't stop is in it, as is each place of from.
func TestClosed(t *testing.T) {
	eachDrawn(152, func(d *drawer, f api.Func, raises []bool) {
		from, stop := d.places(len(f.Code)), d.number(0, len(f.Code))
		got := flow.Reach(f, raises, from, stop)
		if slices.Contains(got, stop) {
			t.Fatalf("from %v, stop %d: %v: %+v", from, stop, got, f)
		}
		in := func(at int) bool { return at == stop || slices.Contains(got, at) }
		for _, at := range from {
			if at >= 0 && at < len(f.Code) && !in(at) {
				t.Fatalf("from %v, stop %d: %d isn't told: %+v", from, stop, at, f)
			}
		}
		for _, at := range got {
			for _, to := range flow.Ways(f, raises, at) {
				if !in(to) {
					t.Fatalf("from %v, stop %d: it goes from %d to %d: %+v", from, stop, at, to, f)
				}
			}
		}
		// What is reached from there is the same again.
		if again := flow.Reach(f, raises, got, stop); !slices.Equal(again, got) {
			t.Fatalf("from %v, stop %d: %v, and from there %v: %+v", from, stop, got, again, f)
		}
	})
}

// TestMore (P15.4): from more places no less is reached, and just what is reached from the one or the other.
func TestMore(t *testing.T) {
	eachDrawn(153, func(d *drawer, f api.Func, raises []bool) {
		from, more, stop := d.places(len(f.Code)), d.places(len(f.Code)), d.number(0, len(f.Code))
		got := flow.Reach(f, raises, slices.Concat(more, from), stop)
		parts := slices.Concat(flow.Reach(f, raises, from, stop), flow.Reach(f, raises, more, stop))
		slices.Sort(parts)
		if !slices.Equal(got, slices.Compact(parts)) {
			t.Fatalf("from %v and %v, stop %d: %v, not %v: %+v", from, more, stop, got, parts, f)
		}
	})
}

// TestOtherStop (P15.4): another stop takes away only what is behind it, and nothing if it wasn't come to.
func TestOtherStop(t *testing.T) {
	taken := 0
	eachDrawn(154, func(d *drawer, f api.Func, raises []bool) {
		from, stop := d.places(len(f.Code)), d.number(0, len(f.Code))
		all := flow.Reach(f, raises, from, none)
		got := flow.Reach(f, raises, from, stop)
		behind := flow.Reach(f, raises, []int{stop}, none)
		for _, at := range got {
			if !slices.Contains(all, at) {
				t.Fatalf("from %v, stop %d: %d is come to only then: %+v", from, stop, at, f)
			}
		}
		for _, at := range all {
			if slices.Contains(got, at) {
				continue
			}
			taken++
			if !slices.Contains(behind, at) || !slices.Contains(all, stop) {
				t.Fatalf("from %v, stop %d: %d is taken away: %+v", from, stop, at, f)
			}
		}
		other := d.number(0, len(f.Code))
		for _, at := range got {
			if !slices.Contains(flow.Reach(f, raises, from, other), at) && !slices.Contains(flow.Reach(f, raises, []int{other}, none), at) {
				t.Fatalf("from %v, stop %d, not %d: %d is taken away: %+v", from, other, stop, at, f)
			}
		}
	})
	if taken < 5000 {
		t.Error("too few:", taken)
	}
}

// TestTogether (P15.1, P15.3): what is told of a place goes together: where nothing goes on and nothing leaves, a way led nowhere; of what goes forward each branch has two ways, or leaves.
func TestTogether(t *testing.T) {
	d := &drawer{Rand: rand.New(rand.NewSource(155)), odd: 1 << 40}
	for range 8000 {
		f := d.function()
		n := len(f.Code)
		f.Handlers = nil
		raises := d.raises(n)
		for at := range n {
			ways := flow.Ways(f, raises, at)
			if flow.Leaves(f, raises, at) != (flow.Raises(f, raises, at) || f.Code[at].Op == api.OpReturn) {
				t.Fatalf("whether %d leaves: %+v", at, f)
			}
			if len(ways) > 1 && !flow.Branches(f, raises, at) {
				t.Fatalf("%d has the ways %v, but doesn't branch: %+v", at, ways, f)
			}
			if at < n-1 && len(ways) == 0 && !flow.Leaves(f, raises, at) {
				t.Fatalf("nothing goes on at %d: %+v", at, f)
			}
		}
	}
}
