package shape_test

import (
	"slices"

	"palisade/api"
	"palisade/class"
)

// What follows is the chapter's words once more, as plainly as may be.

func refCheck(c api.Class) answer {
	if !class.Formed(c) {
		return answer{-1, 0, api.ErrForm}
	}
	for k, f := range c.Funcs {
		for rule := 1; rule <= 4; rule++ {
			if !refRule(c, f, rule) {
				return answer{k, rule, api.ErrVerify}
			}
		}
	}
	return answer{}
}

// refRule tells whether f keeps that rule.
func refRule(c api.Class, f api.Func, rule int) bool {
	n := len(f.Code)
	keeps := true
	switch rule {
	case 1:
		return n != 0 && n == len(f.Points) && f.Slots-len(f.Caps) >= 1
	case 2:
		for i := range f.Code {
			keeps = keeps && refInstruction(c, f, i)
		}
	case 3:
		for _, h := range f.Handlers {
			keeps = keeps && h.From < h.To && !(h.To > h.At) && h.At < n
		}
	case 4:
		for i, r := range f.Regions {
			keeps = keeps && r.At < n && (i == 0 || r.At > f.Regions[i-1].At)
			keeps = keeps && (r.Join == none || r.At < r.Join && r.Join < n)
			keeps = keeps && slices.IsSorted(r.Places) && len(slices.Compact(slices.Clone(r.Places))) == len(r.Places)
			keeps = keeps && !slices.Contains(r.Places, r.Join)
			for _, place := range r.Places {
				keeps = keeps && place > r.At && place < n
			}
		}
	}
	return keeps
}

func refInstruction(c api.Class, f api.Func, i int) bool {
	a, n := int(f.Code[i].A), len(f.Code)
	last := i == n-1
	switch f.Code[i].Op {
	case api.OpLoad, api.OpStore:
		return a < f.Slots && !last
	case api.OpClose:
		return a < len(c.Funcs) && !last
	case api.OpOut:
		return a < len(c.Lattice.Names) && !last
	case api.OpJump:
		return a > i && a < n
	case api.OpUnless:
		return a > i && a < n && !last
	case api.OpReturn, api.OpRaise:
		return true
	}
	return !last
}
