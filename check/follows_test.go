package check_test

import (
	"math/rand"
	"reflect"
	"slices"
	"testing"

	"palisade/api"
	"palisade/check"
	"palisade/lattice"
	"palisade/types"
)

// TestWhatFollows (P7.3): T is formed, and its Label above PC and X.
func TestWhatFollows(t *testing.T) {
	draw := rand.New(rand.NewSource(73))
	accepted := 0
	for n := range 15000 {
		q := drawnQuestion(draw, 1+n%6)
		got, x, _, err := q.judge()
		if err != api.OK {
			continue
		}
		accepted++
		if !types.Formed(q.l, got) || !lattice.Leq(q.l, q.pc, got.Label) || x != api.None && !lattice.Leq(q.l, x, got.Label) {
			t.Fatalf("%+v: %v, %d", q, got, x)
		}
	}
	if accepted < 4000 {
		t.Error(accepted)
	}
}

// TestGreaterPC (P7.3): what is accepted is so wherever PC is lower, and gives a type that is below, and an exc likewise. (So with a greater PC nothing is accepted that wasn't.)
func TestGreaterPC(t *testing.T) {
	draw := rand.New(rand.NewSource(74))
	held := 0
	for n := range 15000 {
		q := drawnQuestion(draw, 1+n%6)
		got, x, _, err := q.judge()
		for _, pc := range lattice.Below(q.l, q.pc) {
			low := q
			low.pc = pc
			t2, x2, _, err2 := low.judge()
			if err == api.OK && (err2 != api.OK || !types.Below(q.l, t2, got) || x2 != api.None && !lattice.Leq(q.l, x2, x)) {
				t.Fatalf("%+v: at %d %v, %d, %d", q, pc, t2, x2, err2)
			}
			if err == api.OK && pc != q.pc {
				held++
			}
		}
	}
	if held < 1000 {
		t.Error(held)
	}
}

// TestOtherNames (P7.3): a name that doesn't stand in an expression changes nothing, wherever it stands among the others, nor does one that stands ahead of another one of that name.
func TestOtherNames(t *testing.T) {
	draw := rand.New(rand.NewSource(75))
	for n := range 8000 {
		q := drawnQuestion(draw, 1+n%5)
		got, x, at, err := q.judge()
		d := &drawer{Rand: draw, l: q.l, odd: 100}
		more := q
		more.env = slices.Clone(q.env)
		for range 1 + d.Intn(3) {
			more.env = slices.Insert(more.env, d.Intn(len(more.env)+1), check.Bind{Name: []string{"v", "", "let", "X"}[d.Intn(4)], Type: d.typ(3)})
		}
		if len(q.env) > 0 {
			i := d.Intn(len(more.env))
			more.env = slices.Insert(more.env, i, check.Bind{Name: more.env[i].Name, Type: d.typ(3)})
		}
		t2, x2, at2, err2 := more.judge()
		if x != x2 || at != at2 || err != err2 || !reflect.DeepEqual(plain(got), plain(t2)) {
			t.Fatalf("%+v: %v, %d, %d, %d; with %v: %v, %d, %d, %d", q, got, x, at, err, more.env, t2, x2, at2, err2)
		}
	}
}
