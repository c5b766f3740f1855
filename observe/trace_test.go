package observe_test

import (
	"math"
	"math/rand"
	"slices"
	"testing"

	"palisade/api"
	"palisade/observe"
)

// events are told on these labels, each with its place as its number.
func events(labels ...int) []api.Event {
	var made []api.Event
	for i, label := range labels {
		made = append(made, api.Event{Label: label, N: int64(i)})
	}
	return made
}

// TestTrace (P19.1): the events whose Label is seen, in their order: those of the observer's own label and of those below; not those of labels above and beside, and of numbers that are no labels.
func TestTrace(t *testing.T) {
	all := events(right, bottom, top, none, left, 4, left, math.MinInt, bottom, math.MaxInt, right, top)
	for label, want := range [][]int64{
		top: {0, 1, 2, 4, 6, 8, 10, 11}, left: {1, 4, 6, 8}, right: {0, 1, 8, 10}, bottom: {1, 8},
	} {
		var got []int64
		for _, event := range observe.Trace(diamond(), label, all) {
			if event.Label != all[event.N].Label {
				t.Error(label, event)
			}
			got = append(got, event.N)
		}
		if !slices.Equal(got, want) {
			t.Error(label, got)
		}
	}
}

// TestTraceNumbers (P19.1): what is told is told as it is, whatever it is and however often.
func TestTraceNumbers(t *testing.T) {
	all := []api.Event{{Label: left, N: math.MinInt64}, {Label: left, N: math.MaxInt64}, {Label: left}, {Label: left}, {Label: left, N: -1}}
	if got := observe.Trace(diamond(), left, all); !slices.Equal(got, all) {
		t.Error(got)
	}
}

// TestTraceNone (P19.1): no events; none that is seen; no label; no lattice.
func TestTraceNone(t *testing.T) {
	for _, all := range [][]api.Event{nil, {}, events(top, right, none, 4)} {
		if got := observe.Trace(diamond(), left, all); len(got) > 0 {
			t.Error(got)
		}
	}
	for _, label := range noLabels(diamond()) {
		if got := observe.Trace(diamond(), label, append(events(top, left, right, bottom), api.Event{Label: label})); len(got) > 0 {
			t.Error(label, got)
		}
	}
	for i, l := range unformed() {
		if got := observe.Trace(l, 0, events(0, 0)); len(got) > 0 {
			t.Error(i, got)
		}
	}
}

// TestTraceDrawn (P19.1): drawn events of each lattice, against the reference.
func TestTraceDrawn(t *testing.T) {
	r := rand.New(rand.NewSource(191))
	told := 0
	for range 2000 {
		l := lattices()[r.Intn(4)]
		var labels []int
		for range r.Intn(20) {
			labels = append(labels, r.Intn(len(l.Names)+2)-1)
		}
		for label := -1; label <= len(l.Names); label++ {
			got, want := observe.Trace(l, label, events(labels...)), referTrace(l, label, events(labels...))
			if !slices.Equal(got, want) {
				t.Fatalf("%v: %d sees %v, not %v", labels, label, got, want)
			}
			if len(got) > 0 && len(got) < len(labels) {
				told++
			}
		}
	}
	if told < 1000 {
		t.Error("too few:", told)
	}
}
