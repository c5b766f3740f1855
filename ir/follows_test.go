package ir_test

import (
	"math/rand"
	"slices"
	"testing"

	"palisade/api"
	"palisade/ir"
)

// TestMoreFunctions (P10.3): functions that are right are so among more functions behind, whatever these are.
func TestMoreFunctions(t *testing.T) {
	draw := rand.New(rand.NewSource(2))
	right := 0
	for range 8000 {
		l, fns := drawnFns(draw)
		if _, e := ir.Check(l, fns); e != api.OK {
			continue
		}
		right++
		d := &drawer{Rand: draw, r: reference{l: l}, odd: 5}
		more := slices.Clone(fns)
		for range 1 + draw.Intn(5) {
			p := d.typ(2)
			more = append(more, ir.Fn{Param: p, Result: d.typ(2), Heap: d.label(), Exc: d.exc(), Slots: typesOf(p, d.typ(2)), Out: draw.Intn(2)})
		}
		if k, e := ir.Check(l, more); e != api.OK && (e != api.ErrVerify || k < len(fns)) {
			t.Fatalf("%+v: %d, error %d", more, k, e)
		}
	}
	if right < 2000 {
		t.Error(right)
	}
}

// TestEnvPutDown (P10.3): where a node's Env is put down, a function that was right stays so, unless AT isn't below it. (So nodes whose Env is put up stay wrong.)
func TestEnvPutDown(t *testing.T) {
	draw := rand.New(rand.NewSource(3))
	stayed, not := 0, 0
	for range 12_000 {
		l, fns := drawnFns(draw)
		if _, e := ir.Check(l, fns); e != api.OK {
			continue
		}
		k := draw.Intn(len(fns))
		nodes := places(fns[k].Body)
		if len(nodes) == 0 {
			continue
		}
		n := nodes[draw.Intn(len(nodes))]
		before := n.Env
		for env := range l.Names {
			if n.Env = env; !l.Order[env][before] || env == before {
				continue
			}
			got, e := ir.Check(l, fns)
			if e == api.OK {
				stayed++
				continue
			}
			if not++; got != k || (reference{l: l, fns: fns}).wrong(k) != atAboveEnv {
				t.Fatalf("%+v: %d, error %d, at Env %d", fns, got, e, env)
			}
		}
	}
	if stayed < 500 || not < 100 {
		t.Error(stayed, not)
	}
}

// TestEnvPutUp (P10.3): functions whose nodes' Envs are put up stay wrong, if it wasn't AT that wasn't below one.
func TestEnvPutUp(t *testing.T) {
	draw := rand.New(rand.NewSource(4))
	asked := 0
	for range 12_000 {
		l, fns := drawnFns(draw)
		k, e := ir.Check(l, fns)
		r := reference{l: l, fns: fns}
		if e != api.ErrVerify || r.wrong(k) == atAboveEnv {
			continue
		}
		asked++
		for _, n := range places(fns[k].Body) {
			if draw.Intn(3) == 0 {
				n.Env = r.join(n.Env, draw.Intn(len(l.Names)))
			}
		}
		if other, e := ir.Check(l, fns); e != api.ErrVerify || other != k {
			t.Fatalf("%+v: %d, error %d", fns, other, e)
		}
	}
	if asked < 2000 {
		t.Error(asked)
	}
}
