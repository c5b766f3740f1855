package regions_test

import (
	"math/rand"
	"slices"
	"testing"

	"palisade/api"
	"palisade/flow"
	"palisade/regions"
)

// drawer draws well formed functions, and regions.
type drawer struct{ *rand.Rand }

func (d *drawer) function() api.Func {
	n := 1 + d.Intn(14)
	var f api.Func
	for at := range n - 1 {
		which := []int{api.OpInt, api.OpStore, api.OpCall, api.OpDiv, api.OpJump, api.OpUnless, api.OpUnless, api.OpUnless, api.OpUnless}[d.Intn(9)]
		if d.Intn(16) == 0 {
			which = []int{api.OpRaise, api.OpReturn, api.OpMod}[d.Intn(3)]
		}
		f.Code = append(f.Code, op(which, at+1+d.Intn(n-1-at)))
	}
	f.Code = append(f.Code, op([]int{api.OpReturn, api.OpRaise}[d.Intn(2)]))
	for range d.Intn(5) {
		if to := d.Intn(n); to > 0 {
			f.Handlers = append(f.Handlers, api.Handler{From: d.Intn(to), To: to, At: to + d.Intn(n-to)})
		}
	}
	return f
}

func (d *drawer) raises(n int) []bool {
	all := make([]bool, d.Intn(n+3))
	for at := range all {
		all[at] = d.Intn(3) == 0
	}
	return all
}

// region is one that may well hold: what is come to up to a join, or that with a few places more or less, or another join.
func (d *drawer) region(f api.Func, raises []bool) api.Region {
	n := len(f.Code)
	r := api.Region{At: d.Intn(n), Join: d.Intn(n+1) - 1}
	if d.Intn(3) == 0 {
		r = regions.Of(f, raises, r.At)
	}
	var places []int
	for _, at := range refWithin(f, raises, r.At, r.Join) {
		if d.Intn(20) > 0 {
			places = append(places, at)
		}
	}
	if more := d.Intn(n); d.Intn(4) == 0 {
		places = append(append(places, more), refWithin(f, raises, more, r.Join)...)
	}
	if d.Intn(8) == 0 {
		r.Join = d.Intn(n+4) - 2
	}
	r.Places = places
	return r
}

func eachDrawn(seed int64, ask func(d *drawer, f api.Func, raises []bool)) {
	d := &drawer{rand.New(rand.NewSource(seed))}
	for range 6000 {
		f := d.function()
		ask(d, f, d.raises(len(f.Code)))
	}
}

// TestDrawnJoins (P16.1): Join, Of and Make of drawn functions.
func TestDrawnJoins(t *testing.T) {
	met, left := 0, 0
	eachDrawn(16, func(d *drawer, f api.Func, raises []bool) {
		for at := -1; at <= len(f.Code); at++ {
			got, want := regions.Of(f, raises, at), refOf(f, raises, at)
			if join := regions.Join(f, raises, at); !same(got, want) || join != refJoin(f, raises, at) {
				t.Fatalf("to %d, the region %v, not %v: %+v, RAISES %v", join, got, want, f, raises)
			}
			if flow.Branches(f, raises, at) && got.Join != none && len(got.Places) > 2 {
				met++
			} else if flow.Branches(f, raises, at) && got.Join == none {
				left++
			}
		}
		if got, want := regions.Make(f, raises), refMake(f, raises); !slices.EqualFunc(got, want, same) {
			t.Fatalf("the regions %v, not %v: %+v, RAISES %v", got, want, f, raises)
		}
	})
	if met < 1000 || left < 1000 {
		t.Error("too few:", met, left)
	}
}

// TestDrawnHolds (P16.2): drawn regions of drawn functions.
func TestDrawnHolds(t *testing.T) {
	told := map[int]int{}
	eachDrawn(161, func(d *drawer, f api.Func, raises []bool) {
		for range 10 {
			r := d.region(f, raises)
			got, want := regions.Holds(f, raises, r), refHolds(f, raises, r)
			if got != want {
				t.Fatalf("of %v it tells %d, not %d: %+v, RAISES %v", r, got, want, f, raises)
			}
			told[got]++
		}
	})
	for want := -1; want <= 3; want++ {
		if told[want] < 500 {
			t.Error("too few:", told)
		}
	}
}

// TestMadeHolds (P16.3): what is made holds.
func TestMadeHolds(t *testing.T) {
	eachDrawn(162, func(d *drawer, f api.Func, raises []bool) {
		for _, r := range regions.Make(f, raises) {
			if got := regions.Holds(f, raises, r); got != 0 {
				t.Fatalf("of %v it tells %d: %+v, RAISES %v", r, got, f, raises)
			}
		}
		for at := range f.Code {
			if r := regions.Of(f, raises, at); regions.Holds(f, raises, r) != 0 {
				t.Fatalf("%v doesn't hold: %+v, RAISES %v", r, f, raises)
			}
		}
	})
}

// TestLeast (P16.3): no region holds whose join is less than Of's, or where Of has none; each that holds has all places of Of's.
func TestLeast(t *testing.T) {
	later := 0
	eachDrawn(163, func(d *drawer, f api.Func, raises []bool) {
		for range 10 {
			r := d.region(f, raises)
			if leastOf(t, f, raises, r, regions.Of(f, raises, r.At)) {
				later++
			}
		}
	})
	if later < 1000 {
		t.Error("too few:", later)
	}
}

// leastOf asks this of one region, and tells whether it holds with a join that is greater than that of Of's region.
func leastOf(t *testing.T, f api.Func, raises []bool, r, made api.Region) bool {
	t.Helper()
	if r.Join == none || regions.Holds(f, raises, r) != 0 {
		return false
	}
	if made.Join == none || r.Join < made.Join {
		t.Fatalf("%v holds, but Of makes %v: %+v, RAISES %v", r, made, f, raises)
	}
	for _, at := range made.Places {
		if !slices.Contains(r.Places, at) {
			t.Fatalf("%v holds, and Of makes %v: %+v, RAISES %v", r, made, f, raises)
		}
	}
	return r.Join > made.Join
}

// TestAllSmall (P16.1 to P16.3): all well formed functions of up to four instructions of some Ops, with some handlers, and all regions of theirs.
func TestAllSmall(t *testing.T) {
	for n := 1; n <= 4; n++ {
		for _, f := range allOf(n, function()) {
			for _, h := range [][]api.Handler{nil, {{From: 0, To: n - 1, At: n - 1}}, {{From: 1, To: 2, At: 2}}, {{From: 0, To: 1, At: none}, {From: 0, To: 2, At: 2}}} {
				if n > 2 || h == nil {
					allRegions(t, handled(f, h...))
				}
			}
		}
	}
}

// allOf is f, with all that may follow up to n instructions.
func allOf(n int, f api.Func) []api.Func {
	at := len(f.Code)
	if at == n {
		return []api.Func{f}
	}
	var all []api.Func
	try := func(i api.Ins) {
		all = append(all, allOf(n, function(append(slices.Clone(f.Code), i)...))...)
	}
	try(op(api.OpReturn))
	try(op(api.OpRaise))
	if at == n-1 {
		return all
	}
	try(op(api.OpInt))
	try(op(api.OpDiv))
	for to := at + 1; to < n; to++ {
		try(op(api.OpJump, to))
		try(op(api.OpUnless, to))
	}
	return all
}

func allRegions(t *testing.T, f api.Func) {
	t.Helper()
	n := len(f.Code)
	for at := range f.Code {
		made := regions.Of(f, nil, at)
		if !same(made, refOf(f, nil, at)) {
			t.Fatalf("the region is %v: %+v", made, f)
		}
		for join := none; join < n; join++ {
			for set := range 1 << n {
				r := api.Region{At: at, Join: join}
				for place := range n {
					if set>>place&1 == 1 {
						r.Places = append(r.Places, place)
					}
				}
				if got := regions.Holds(f, nil, r); got != refHolds(f, nil, r) {
					t.Fatalf("of %v it tells %d: %+v", r, got, f)
				}
				leastOf(t, f, nil, r, made)
			}
		}
	}
}
