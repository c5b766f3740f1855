package observe_test

import (
	"slices"
	"testing"

	"palisade/api"
	"palisade/observe"
	"palisade/vm"
)

// ended tells whether a run has ended with a value or by raising.
func ended(o api.Outcome) bool {
	return o.Kind == api.Returned || o.Kind == api.Raised
}

func (q question) run() api.Outcome {
	return vm.Run(q.c, q.arg, q.heap, q.limits)
}

// behind is what is seen of the cells that the run began with, and of what it returned or raised, if that is asked for.
func (q question) behind(o api.Outcome, withValue bool) scene {
	l, main := q.c.Lattice, q.c.Funcs[0]
	s := scene{l, q.c.Funcs, o.Heap, observe.Roots(l, o.Heap[:len(q.heap)])}
	switch {
	case !withValue:
	case o.Kind == api.Returned:
		s.Seeds = append(s.Seeds, observe.Seed{T: main.Result, V: o.Value})
	default:
		s.Seeds = append(s.Seeds, observe.Seed{T: intAt(main.Exc), V: o.Value})
	}
	return s
}

// keeps asks whether an observer to which both begin alike sees both end alike; no word, if so.
func keeps(p, q question, label int, one, other api.Outcome) string {
	l, main := p.c.Lattice, p.c.Funcs[0]
	if !slices.Equal(observe.Trace(l, label, one.Trace), observe.Trace(l, label, other.Trace)) {
		return "events"
	}
	same := one.Kind == other.Kind
	if !same && (l.Order[main.Result.Label][label] || l.Order[main.Exc][label]) {
		return "ends"
	}
	if p.behind(one, same).view(label) != q.behind(other, same).view(label) {
		return "views"
	}
	return ""
}

// flows counts what was asked.
type flows struct {
	t      *testing.T
	counts map[string]int
}

// ask runs a class twice with what is alike to an observer, and holds what that sees of the one against what it sees of the other.
func (f *flows) ask(d *drawer, q question, label int) {
	l := q.c.Lattice
	other := d.other(q, func(of int) bool { return l.Order[of][label] })
	other.limits = api.Limits{Fuel: q.limits.Fuel + d.Intn(2), Frames: q.limits.Frames + d.Intn(2), Cells: q.limits.Cells + d.Intn(2)}
	if !q.fits() || !other.fits() || q.scene().view(label) != other.scene().view(label) {
		f.t.Fatalf("%+v, %+v: unlike, or they don't fit", q, other)
	}
	one, two := q.run(), other.run()
	if alike(q.arg, other.arg) && alike(q.heap, other.heap) || !ended(one) || !ended(two) {
		return
	}
	f.count(q, label, one, two)
	if what := keeps(q, other, label, one, two); what != "" {
		f.t.Fatalf("%s: %+v, %+v: %+v, %+v", what, q, other, one, two)
	}
}

// count tells apart what there may be to be seen.
func (f *flows) count(q question, label int, one, two api.Outcome) {
	l, main := q.c.Lattice, q.c.Funcs[0]
	for what, holds := range map[string]bool{
		"ended": true, "unlike ends": one.Kind != two.Kind, "unlike steps": one.Steps != two.Steps, "unlike events": !slices.Equal(one.Trace, two.Trace),
		"events":  len(observe.Trace(l, label, one.Trace)) > 0,
		"raised":  one.Kind == api.Raised && two.Kind == api.Raised,
		"results": one.Kind == two.Kind && one.Kind == api.Returned && l.Order[main.Result.Label][label],
		"raises":  one.Kind == two.Kind && one.Kind == api.Raised && l.Order[main.Exc][label],
		"cells":   len(one.Heap) != len(two.Heap),
	} {
		if holds {
			f.counts[what]++
		}
	}
}

// TestNoSecretFlows (P19.3): drawn accepted classes, each run twice with what is alike to an observer.
func TestNoSecretFlows(t *testing.T) {
	f := &flows{t, map[string]int{}}
	accepted(193, 1300, func(d *drawer) {
		f.counts["classes"]++
		for range 5 {
			q, ok := d.given()
			for label := range q.c.Lattice.Names {
				if ok {
					f.ask(d, q, label)
				}
			}
		}
	})
	for what, least := range map[string]int{
		"classes": 400, "ended": 2500, "events": 900, "raised": 350, "results": 1500, "raises": 250, "unlike ends": 50, "unlike events": 250, "unlike steps": 250, "cells": 30,
	} {
		if f.counts[what] < least {
			t.Error("too few:", what, f.counts[what])
		}
	}
}
