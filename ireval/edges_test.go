package ireval_test

import (
	"math"
	"slices"
	"strconv"
	"testing"

	"palisade/api"
	"palisade/ir"
)

// TestFuel (P12.1): just enough, one less, none; too much, and less than none.
func TestFuel(t *testing.T) {
	fails := list(number(1, 8), raise(1))
	for _, c := range []struct {
		how   string
		steps int
		fns   []ir.Fn
	}{
		{"returned 4", 0, []ir.Fn{function(0)}},
		{"stuck", 0, []ir.Fn{function(none)}},
		{"returned 5", 1, []ir.Fn{function(1, number(1, 5))}},
		{"stuck", 1, []ir.Fn{function(1, not(1, 0))}},
		{"raised 4", 1, []ir.Fn{function(1, raise(0))}},
		{"returned 4", 1, []ir.Fn{function(0, try(1, nil, nil))}},
		{"returned 5", 3, []ir.Fn{function(1, truth(2, 1), choice(2, list(number(1, 5)), nil))}},
		{"returned 8", 4, []ir.Fn{function(2, try(1, fails, list(move(2, 1))))}},
		{"returned 4", 2, []ir.Fn{function(2, closure(1, 1), call(2, 1, 0)), function(0)}},
		{"stuck", 2, []ir.Fn{function(2, closure(1, 1), call(2, 1, 0)), function(none)}},
		{"raised 8", 4, []ir.Fn{function(2, closure(1, 1), call(2, 1, 0)), function(none, fails...)}},
		{"returned 4", 30, []ir.Fn{function(2, closure(1, 1, 0), call(2, 1, 0)), counting()}},
	} {
		q := ask(integer(4), nil, c.fns...)
		for fuel := range c.steps + 3 {
			line := c.how + ",,, " + strconv.Itoa(c.steps)
			if fuel < c.steps {
				line = "out of fuel,,, " + strconv.Itoa(fuel)
			}
			q.with(fuel).tells(t, line)
		}
		q.with(api.MaxSteps).tells(t, c.how+",,, "+strconv.Itoa(c.steps))
		q.heap = cells(integer(1))
		for _, fuel := range []int{-1, -2, math.MinInt, api.MaxSteps + 1, math.MaxInt, 1 << 32} {
			q.with(fuel).refused(t)
		}
	}
}

// TestFuelTells (P12.1): a run out of fuel tells its events and cells then, and no value.
func TestFuelTells(t *testing.T) {
	q := ask(ref(0), cells(integer(1)), function(4, number(1, 5), out(0, 1), cell(2, 1, 1), set(0, 2), truth(3, 1), choice(3, list(out(1, 1)), nil), get(4, 0)))
	for fuel, line := range []string{
		"out of fuel,, 1, 0", "out of fuel,, 1, 1", "out of fuel, 5, 1, 2", "out of fuel, 5, 1 ^5, 3", "out of fuel, 5, r1 ^5, 4", "out of fuel, 5, r1 ^5, 5",
		"out of fuel, 5, r1 ^5, 6", "out of fuel, 5 ^5, r1 ^5, 7", "returned r1, 5 ^5, r1 ^5, 8", "returned r1, 5 ^5, r1 ^5, 8",
	} {
		q.with(fuel).tells(t, line)
	}
}

// loop counts down from calls, at six steps each, and does so many more at first.
func loop(calls int64, more int) question {
	body := slices.Repeat(list(number(3, 1)), more)
	body = append(body, closure(1, 1, 0), number(2, calls), call(2, 1, 2))
	return ask(integer(4), nil, function(2, body...), counting())
}

// TestMaxSteps (P12.1): a run of just MaxSteps steps, and one of one more.
func TestMaxSteps(t *testing.T) {
	loop(2, 0).tells(t, "returned 4,,, 19")
	loop(10921, 3).tells(t, "returned 4,,, 65536")
	loop(10921, 3).with(api.MaxSteps-1).tells(t, "out of fuel,,, 65535")
	loop(10921, 4).tells(t, "out of fuel,,, 65536")
	ask(integer(4), nil, function(none, self(1), call(2, 1, 0))).tells(t, "out of fuel,,, 65536")
}

// TestManyCells (P12.1): 1000 cells, and one more; a run may make more than those.
func TestManyCells(t *testing.T) {
	heap := cells(make([]api.Value, 1000)...)
	for i := range heap {
		heap[i].Value = integer(int64(i))
	}
	f := function(3, number(1, 5), set(0, 1), get(2, 0), cell(3, 2, 0))
	o := ask(ref(999), heap, f).run()
	if o.Kind != api.Returned || text(o.Value) != "r1000" || len(o.Heap) != 1001 || o.Heap[999].Value.N != 5 || o.Heap[998].Value.N != 998 || o.Heap[1000].Value.N != 5 || o.Steps != 4 {
		t.Error(o.Kind, text(o.Value), len(o.Heap), o.Steps)
	}
	ask(ref(999), append(heap, heap[0]), f).refused(t)
	ask(ref(999), append(heap, heap...), function(0)).with(0).refused(t)
	o = ask(integer(1), heap, function(none, cell(1, 0, 0), self(2), call(3, 2, 0))).run()
	if made := len(o.Heap) - 1000; o.Kind != api.OutOfFuel || made != api.MaxSteps/3+1 {
		t.Error(o.Kind, made)
	}
}

func count(v api.Value) int {
	n := 1
	for _, part := range v.Parts {
		n += count(part)
	}
	return n
}

// TestMaxValue (P12.1): a Pair and a Fun of MaxValue nodes, and of one more.
func TestMaxValue(t *testing.T) {
	returns := func(nodes int, arg api.Value, body ...ir.Node) {
		t.Helper()
		o := ask(arg, nil, function(9, body...), function(0), capturing(1, 0), capturing(2, 0)).run()
		if o.Kind != api.Returned || count(o.Value) != nodes || o.Steps != len(body) {
			t.Errorf("%d, %d nodes, %d steps", o.Kind, count(o.Value), o.Steps)
		}
	}
	exhausts := func(arg api.Value, body ...ir.Node) {
		t.Helper()
		body = append(slices.Clone(body), number(9, 1), out(0, 9))
		ask(arg, nil, function(9, body...), function(0), capturing(1, 0), capturing(2, 0)).tells(t, "exhausted,,, "+strconv.Itoa(len(body)-2))
		ask(arg, nil, function(9, body...), function(0), capturing(1, 0), capturing(2, 0)).with(len(body)-3).tells(t, "out of fuel,,, "+strconv.Itoa(len(body)-3))
	}
	one := number(1, 5)
	returns(2000, sized(1998), one, couple(9, 0, 1))
	returns(2000, sized(1998), one, couple(9, 1, 0))
	exhausts(sized(1999), one, couple(9, 0, 1))
	exhausts(sized(1999), one, couple(9, 1, 0))
	returns(2000, sized(1999), closure(9, 2, 0))
	exhausts(sized(2000), closure(9, 2, 0))
	returns(2000, sized(1998), one, closure(9, 3, 1, 0))
	exhausts(sized(1999), one, closure(9, 3, 0, 1))
	exhausts(sized(1000), couple(9, 0, 0))
	returns(1999, sized(999), couple(9, 0, 0))
	exhausts(sized(1000), closure(9, 3, 0, 0))
	returns(2000, pair(sized(1996), integer(1)), one, couple(9, 0, 1))
	exhausts(pair(sized(1997), integer(1)), one, couple(9, 0, 1))
	// What isn't made anew isn't asked: it is copied, held and called as it is.
	returns(2000, sized(2000), move(9, 0))
	returns(2000, sized(2000), cell(1, 0, 0), get(9, 1))
	returns(1, sized(2000), cell(1, 0, 0), set(1, 0), move(9, 1))
	returns(1998, pair(sized(1998), integer(1)), first(9, 0))
	great := fun(1)
	for range 16 {
		great.Parts = append(great.Parts, sized(124))
	}
	great.Parts[0] = sized(139)
	wide := capturing(0, 17, self(17))
	wide.Slots = slices.Repeat(wide.Slots[:1], 20)
	wide.Caps = wide.Slots[:16]
	o := ask(great, nil, function(1, call(1, 0, 0)), wide).run()
	if o.Kind != api.Returned || count(o.Value) != 2000 || o.Steps != 2 {
		t.Error(o.Kind, count(o.Value), o.Steps)
	}
}

// TestExhaustedTells (P12.1): a run that is exhausted tells its events and cells then, also within a call, and no value.
func TestExhaustedTells(t *testing.T) {
	main := function(2, number(1, 6), out(1, 1), cell(3, 1, 0), closure(4, 1), try(5, list(call(2, 4, 0)), list(out(0, 1))))
	ask(sized(1500), cells(boolean(1)), main, function(2, number(1, 7), out(0, 1), couple(2, 0, 0))).tells(t, "exhausted, ^6 7, true 6, 9")
	// A tree of Pairs that doubles: the tenth has 2047 nodes.
	ask(integer(4), nil, function(none, couple(1, 0, 0), self(2), call(3, 2, 1))).tells(t, "exhausted,,, "+strconv.Itoa(9*3+1))
}

// TestDeepRecursion (P12.1, R1): functions that call themselves as deep as the fuel bears, with as many slots and as much begun around each call as may be; they end, also by what they raise.
func TestDeepRecursion(t *testing.T) {
	ask(fun(0), nil, function(none, call(1, 0, 0))).tells(t, "out of fuel,,, 65536")
	all := function(none, call(249, 0, 0))
	all.Slots = slices.Repeat(all.Slots[:1], api.MaxSlots)
	ask(fun(0), nil, all).tells(t, "out of fuel,,, 65536")
	all.Body = list(number(249, 1), call(248, 0, 0))
	ask(fun(0), nil, all).tells(t, "out of fuel,,, 65536")
	inTry := function(none, try(1, list(call(2, 0, 0)), list(call(2, 0, 0))))
	ask(fun(0), nil, inTry).tells(t, "out of fuel,,, 65536")
	deep := list(call(2, 0, 0))
	for range 63 {
		deep = list(try(1, deep, nil))
	}
	ask(fun(0), nil, function(none, deep...)).tells(t, "out of fuel,,, 65536")

	less := []ir.Node{number(1, 1), reckon(2, api.OpLess, 0, 1), number(7, 8)}
	down := func(end, again []ir.Node) question {
		again = append(list(self(4), reckon(5, api.OpSub, 0, 1), call(6, 4, 5)), again...)
		return ask(integer(7000), nil, function(6, append(slices.Clone(less), choice(2, end, again))...))
	}
	down(list(raise(7)), nil).tells(t, "raised 8,,, "+strconv.Itoa(7000*7+5))
	down(list(move(6, 7)), list(reckon(6, api.OpAdd, 6, 1))).tells(t, "returned 7008,,, "+strconv.Itoa(7000*8+5))
	down(list(first(6, 7)), nil).tells(t, "stuck,,, "+strconv.Itoa(7000*7+5))
	// Each call takes what is raised, and raises it again.
	again := append(slices.Clone(less), choice(2, list(raise(7)), list(self(4), reckon(5, api.OpSub, 0, 1), try(8, list(call(6, 4, 5)), list(raise(8))))))
	ask(integer(7000), nil, function(6, again...)).tells(t, "raised 8,,, "+strconv.Itoa(7000*9+5))
	// One Try around them all takes it.
	taken := function(3, closure(1, 1), try(3, list(call(2, 1, 0)), list(out(0, 3))))
	ask(integer(7000), nil, taken, function(6, append(slices.Clone(less), choice(2, list(raise(7)), list(self(4), reckon(5, api.OpSub, 0, 1), call(6, 4, 5))))...)).tells(t, "returned 8, 8,, "+strconv.Itoa(3+7000*7+5+1))
}
