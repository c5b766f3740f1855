package free_test

import (
	"math/rand"
	"slices"
	"testing"

	"palisade/api"
	"palisade/free"
	"palisade/syntax"
)

// TestCapturesOfScope (P8.4): a function captures nothing that is not in its scope, nor anything that it doesn't need.
func TestCapturesOfScope(t *testing.T) {
	draw := rand.New(rand.NewSource(84))
	captured := 0
	for n := range 20000 {
		d, e := drawn(draw, n)
		arg := d.name()
		table := free.Table(arg, e)
		for i, f := range functionsOf([]string{arg}, e) {
			for _, n := range table[i].Caps {
				captured++
				if !slices.Contains(f.scope, n) || !free.Stands(f.fun, n) {
					t.Fatalf("%+v captures %q of %q", f.fun, n, f.scope)
				}
			}
		}
	}
	if captured < 4000 {
		t.Error("too few were captured:", captured)
	}
}

// TestClosedBody (P8.4): where a body is closed by its scope each function's names that are free are just what it captures.
func TestClosedBody(t *testing.T) {
	draw := rand.New(rand.NewSource(844))
	functions := 0
	for n := range 60000 {
		_, e := drawn(draw, n)
		if !free.Closed([]string{"x"}, e) {
			continue
		}
		for _, entry := range free.Table("x", e) {
			functions++
			needed := free.Names(entry.Fun)
			slices.Sort(needed)
			if caps := slices.Sorted(slices.Values(entry.Caps)); !slices.Equal(caps, needed) {
				t.Fatalf("%+v: it captures %q and needs %q", entry.Fun, caps, needed)
			}
		}
	}
	if functions < 5000 {
		t.Error("too few functions:", functions)
	}
}

// TestDrawnAreFormed: half of what is drawn is what a program's Body may be.
func TestDrawnAreFormed(t *testing.T) {
	draw := rand.New(rand.NewSource(1))
	some := api.Type{Kind: api.Int}
	for n := range 500 {
		d, e := drawn(draw, n)
		p := api.Program{Lattice: api.Lattice{Names: []string{"low"}, Order: [][]bool{{true}}}, Arg: "x", Param: some, Result: some, Body: e}
		if d.formed && !syntax.Formed(p) {
			t.Fatalf("%+v", e)
		}
	}
}
