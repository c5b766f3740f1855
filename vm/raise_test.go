package vm_test

import (
	"fmt"
	"testing"

	"palisade/api"
)

// raises is code of each Op that raises, of what it raises, and of its steps.
func raises() map[string][]api.Ins {
	return map[string][]api.Ins{"7": {truth(1), number(7), throw}, "0": byZero, "0 ": restOf0}
}

func raisedBy(name string) string {
	return name[:1]
}

// TestRaised (P18.1): without a handler the run ends with what is raised, and with what was done.
func TestRaised(t *testing.T) {
	for name, list := range raises() {
		code(list...).tells(t, "raised "+raisedBy(name)+",,, 3")
		list = joined([]api.Ins{given, out(1), given, cell(0)}, list...)
		code(list...).tells(t, "raised "+raisedBy(name)+", ^4, 4, 7")
		code(list...).fuel(6).tells(t, "out of fuel, ^4, 4, 6")
	}
	for _, n := range []int64{0, -1, 1 << 62} {
		code(number(n), throw).tells(t, "raised "+text(integer(n))+",,, 2")
	}
}

// TestHandled (P18.1): with a handler of the place the stack is what is raised alone, and it goes on there; slots, cells and events are as they were.
func TestHandled(t *testing.T) {
	for name, list := range raises() {
		// At 8: what is raised alone may be returned.
		f := function(joined(joined([]api.Ins{truth(1), number(3), store(1)}, list...), give, give, give)...)
		for from := range 6 {
			want := "returned " + raisedBy(name) + ",,, 7"
			ask(integer(4), nil, handled(f, from, 6, 8)).tells(t, want)
			ask(integer(4), nil, handled(f, from, 65535, 8)).tells(t, want)
			if from < 5 {
				ask(integer(4), nil, handled(f, from, 5, 8)).tells(t, "raised "+raisedBy(name)+",,, 6")
			}
		}
		for _, span := range [][2]int{{6, 7}, {6, 65535}, {5, 5}, {6, 5}, {65535, 0}} {
			ask(integer(4), nil, handled(f, span[0], span[1], 8)).tells(t, "raised "+raisedBy(name)+",,, 6")
		}
		f = function(joined(joined([]api.Ins{given, out(0), given, cell(1), store(1)}, list...), given, load(1), couple, couple, give)...)
		ask(integer(5), nil, handled(f, 7, 8, 8)).tells(t, "returned p["+raisedBy(name)+" p[5 r0]], 5, ^5, 13")
	}
	// The first handler that holds the place counts.
	f := function(given, throw, give, pop, number(1), give, pop, number(2), give)
	ask(integer(4), nil, handled(handled(f, 1, 2, 3), 1, 2, 6)).tells(t, "returned 1,,, 5")
	ask(integer(4), nil, handled(handled(f, 1, 2, 6), 1, 2, 3)).tells(t, "returned 2,,, 5")
	ask(integer(4), nil, handled(handled(f, 0, 1, 3), 0, 2, 6)).tells(t, "returned 2,,, 5")
	ask(integer(4), nil, handled(handled(f, 2, 9, 3), 1, 9, 2)).tells(t, "returned 4,,, 3")
	// A handler may lead back, to its own place too, and may raise again.
	ask(integer(4), nil, handled(function(given, throw), 1, 2, 1)).fuel(9).tells(t, "out of fuel,,, 9")
	ask(integer(4), nil, handled(function(given, throw, number(9), throw), 1, 2, 2)).tells(t, "raised 9,,, 4")
	ask(integer(4), nil, handled(handled(function(given, throw, throw, couple), 1, 2, 2), 2, 3, 0)).fuel(9).tells(t, "out of fuel,,, 9")
	// On a full stack, too, there is room: what was there is gone.
	ask(integer(4), nil, handled(function(joined(repeat(8, given), throw, give)...), 8, 9, 9)).tells(t, "returned 4,,, 10")
	// What doesn't raise goes on behind, with a handler or without.
	ask(integer(4), nil, handled(function(number(6), number(3), div, give, number(1), give), 0, 4, 4)).tells(t, "returned 2,,, 4")
	ask(integer(4), nil, handled(function(couple, number(1), give), 0, 3, 1)).tells(t, "stuck,,, 1") // to be Stuck isn't raised
}

// TestHandledBelow (P18.1): without a handler in its frame what is raised is raised at the place of the call below, and so on; the frames ahead are taken away.
func TestHandledBelow(t *testing.T) {
	for name, list := range raises() {
		raises := function(list...)
		main := function(truth(1), closes(1), given, call, couple, give, given, couple, give)
		for at := range 6 {
			want := fmt.Sprintf("returned p[%s 4],,, 10", raisedBy(name))
			if at != 3 {
				want = "raised " + raisedBy(name) + ",,, 7"
			}
			ask(integer(4), nil, handled(main, at, at+1, 6), raises).tells(t, want)
		}
		// Through a frame without one.
		through := function(truth(0), closes(2), given, call, out(1), give)
		caught := handled(main, 3, 4, 6)
		ask(integer(4), nil, caught, through, raises).tells(t, fmt.Sprintf("returned p[%s 4],,, 14", raisedBy(name)))
		ask(integer(4), nil, main, through, raises).tells(t, "raised "+raisedBy(name)+",,, 11")
		ask(integer(4), nil, handled(main, 4, 9, 6), handled(through, 0, 3, 5), raises).tells(t, "raised "+raisedBy(name)+",,, 11")
		// The first frame back that has one takes it: that of the call between, and that of the place itself.
		ask(integer(4), nil, caught, handled(through, 3, 4, 5), raises).tells(t, fmt.Sprintf("returned p[true %s],,, 14", raisedBy(name)))
		own := handled(function(joined(list, give)...), 2, 3, 3)
		ask(integer(4), nil, caught, handled(through, 3, 4, 5), own).tells(t, fmt.Sprintf("returned p[true false], ^%s,, 16", raisedBy(name)))
	}
}

// TestAfterHandling (P18.1): behind a handler all goes on as in the frame that has it: with its slots, its Fun, and later calls and raises.
func TestAfterHandling(t *testing.T) {
	fails := function(number(9), store(1), given, throw)
	main := handled(function(number(6), store(1), closes(1), given, call, self, load(1), couple, couple, give), 4, 5, 5)
	ask(integer(4), nil, main, fails).tells(t, "returned p[4 p[f0[] 6]],,, 14")
	// The place that counts is that of the last call, and of each frame its own.
	second := handled(function(closes(1), given, call, closes(1), number(5), call, give), 2, 3, 3)
	ask(integer(4), nil, second, fails).tells(t, "raised 5,,, 14")
	ask(integer(4), nil, handled(second, 5, 6, 6), fails).tells(t, "returned 5,,, 15")
	both := handled(function(closes(1), given, call, pop, closes(1), number(5), call, give), 2, 7, 3)
	small := function(given, number(5), op(api.OpLess), unless(6), given, throw, given, give) // raises what is less than 5
	ask(integer(4), nil, both, small).tells(t, "returned 5,,, 20")
	// A call that has returned takes nothing any more.
	late := handled(function(closes(1), given, call, throw), 2, 3, 0)
	ask(integer(4), nil, late, function(given, give)).tells(t, "raised 4,,, 6")
	// What raises through very many frames is soon at its end.
	deep := function(given, number(5000), op(api.OpLess), unless(9), self, given, number(1), add, call, number(3), throw)
	if got := told(ask(integer(4), nil, handled(deep, 0, 8, 0)).frames(1 << 20).run()); got != "raised 3,,, 44970" {
		t.Error(got)
	}
	// The last handler that it comes to is that of the first frame.
	first := handled(function(closes(1), given, call, give), 2, 3, 3)
	if got := told(ask(integer(4), nil, first, deep).frames(1 << 20).run()); got != "returned 3,,, 44974" {
		t.Error(got)
	}
}
