package vm_test

import (
	"fmt"
	"math"
	"slices"
	"testing"

	"palisade/api"
)

// endOf is an outcome with fewer words: its Kind, how many nodes its value has, how many cells there are, and its steps.
func endOf(o api.Outcome) [4]int {
	return [4]int{o.Kind, count(o.Value), len(o.Heap), o.Steps}
}

func count(v api.Value) int {
	n := min(v.Kind, 1)
	for _, part := range v.Parts {
		n += count(part)
	}
	return n
}

// TestCellLimit (P18.1): OpNew with as many cells as there may be, or more, is Exhausted; with one fewer it isn't.
func TestCellLimit(t *testing.T) {
	f := function(given, out(0), given, cell(1), give)
	for there := range 4 {
		q := ask(integer(4), cells(integer(7), integer(8), integer(9))[:there], f)
		heap := []string{",", ", 7", ", 7 ^8", ", 7 ^8 9"}[there]
		for limit := range 6 {
			if limit <= there {
				q.cells(limit).tells(t, "exhausted, 4"+heap+", 4")
			} else {
				q.cells(limit).tells(t, fmt.Sprintf("returned r%d, 4%s ^4, 5", there, heap))
			}
		}
		q.cells(math.MaxInt).tells(t, fmt.Sprintf("returned r%d, 4%s ^4, 5", there, heap))
		q.cells(0).fuel(3).tells(t, "out of fuel, 4"+heap+", 3")
		q.cells(0).fuel(4).tells(t, "exhausted, 4"+heap+", 4")
	}
	// Those that were there, and those that are made, are counted alike; the rest of what cells are for doesn't hang on the limit.
	ask(ref(1), cells(integer(7), integer(8)), function(given, number(5), set, given, get, give)).cells(0).tells(t, "returned 5,, 7 ^5, 6")
	code(given, cell(0), cell(0), cell(0), give).cells(2).tells(t, "exhausted,, 4 r0, 4")
	// In whatever frame; and what is Exhausted is no raise that could be handled.
	ask(integer(4), nil, handled(function(given, cell(0), pop, closes(1), given, call, give), 0, 7, 6), function(given, cell(0), give)).cells(1).tells(t, "exhausted,, 4, 8")
	// That there is nothing to put into it is asked ahead of that.
	code(cell(0)).cells(0).tells(t, "stuck,,, 1")
	// 1000 to begin with, and more then.
	many := ask(integer(4), cells(slices.Repeat(values()[:1], 1000)...), function(given, cell(0), pop, jump(0)))
	if got := endOf(many.cells(1000).run()); got != [4]int{api.Exhausted, 0, 1000, 2} {
		t.Error(got)
	}
	if got := endOf(many.cells(1001).run()); got != [4]int{api.Exhausted, 0, 1001, 6} {
		t.Error(got)
	}
	if got := endOf(many.cells(1 << 40).run()); got != [4]int{api.OutOfFuel, 0, 1000 + api.MaxSteps/4, api.MaxSteps} {
		t.Error(got)
	}
}

// TestGreatValues (P18.1): a Pair and a Fun of MaxValue nodes, and of one more.
func TestGreatValues(t *testing.T) {
	for _, size := range [][2]int{{1, 1}, {998, 1001}, {1, 1998}, {1998, 1}, {1000, 1000}, {1999, 1}, {1, 1999}, {999, 999}, {2000, 2000}} {
		for _, makes := range []api.Ins{couple, closes(1)} {
			f := handled(function(given, first, get, given, second, get, makes, give), 0, 7, 7)
			q := ask(pair(ref(0), ref(1)), cells(sized(size[0]), sized(size[1])), f, capturing(2))
			want := [4]int{api.Returned, 1 + size[0] + size[1], 2, 8}
			if want[1] > api.MaxValue {
				want = [4]int{api.Exhausted, 0, 2, 7}
			}
			q.holds(t, fmt.Sprint(makes.Op, size), want)
			// What is put there alone, or is in a cell, or taken apart, is made of nothing new.
			q.c.Funcs[0].Code = []api.Ins{given, first, get, store(1), load(1), cell(0), get, give}
			q.holds(t, fmt.Sprint(size), [4]int{api.Returned, size[0], 3, 8})
		}
	}
	for _, size := range []int{1, 1998, 1999, 2000} {
		q := ask(sized(size), nil, function(given, closes(1), give), capturing(1))
		want := [4]int{api.Returned, size + 1, 0, 3}
		if size == api.MaxValue {
			want = [4]int{api.Exhausted, 0, 0, 2}
		}
		q.holds(t, fmt.Sprint("Fun of ", size), want)
	}
	// Nodes that share memory count each: 3, 7, 15 and so on, up to 1023.
	ask(integer(4), nil, function(given, given, couple, store(0), jump(0))).holds(t, "doubled", [4]int{api.Exhausted, 0, 0, 48})
	// What it lacks is asked ahead of how great it would be.
	q := ask(sized(2000), nil, function(given, closes(1), give), capturing(2))
	q.holds(t, "too few", [4]int{api.Stuck, 0, 0, 2})
	q.c.Funcs[0].Code[1] = couple
	q.holds(t, "too few", [4]int{api.Stuck, 0, 0, 2})
}

// holds holds what a run and the reference tell against an end.
func (q question) holds(t *testing.T, name string, want [4]int) {
	t.Helper()
	o := q.run()
	if endOf(o) != want || !alike(o, q.refer()) {
		t.Errorf("%s: %v, the reference %v; want %v", name, endOf(o), endOf(q.refer()), want)
	}
}

// TestFuel (P18.1): from 0 to MaxSteps; with none left the run ends ahead of the next step, whatever that would do.
func TestFuel(t *testing.T) {
	for _, i := range []api.Ins{add, give, throw, call, cell(0), load(9), closes(65535), jump(9), given} {
		code(i).fuel(0).tells(t, "out of fuel,,, 0")
		code(given, i).fuel(1).tells(t, "out of fuel,,, 1")
		ask(integer(4), nil, handled(function(given, i), 0, 2, 0)).fuel(1).cells(0).frames(1).tells(t, "out of fuel,,, 1")
	}
	ask(integer(4), nil, function(closes(1), given, call, give), function(out(1), give)).fuel(3).tells(t, "out of fuel,,, 3")
	code(given, give).fuel(2).tells(t, "returned 4,,, 2")
	code(given, throw).fuel(2).tells(t, "raised 4,,, 2")
	code(given, out(0), jump(0)).fuel(api.MaxSteps).holds(t, "the most", [4]int{api.OutOfFuel, 0, 0, api.MaxSteps})
	code(given, give).fuel(api.MaxSteps).tells(t, "returned 4,,, 2")
}
