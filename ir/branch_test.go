package ir_test

import (
	"slices"
	"testing"

	"palisade/api"
	"palisade/ir"
)

// The slots of a branched function: what it has at first (the Param and Caps), by Kind and label, and such as nothing has set yet.
const (
	intO = iota
	boolO
	boolA
	intA
	intB
	intC
	fresh // from here on Ints of the top
	fresher
	freshest
)

// branched is a function of sets with that Body, which gives a slot, or None; nothing but its own nodes makes it wrong.
func branched(out int, body ...ir.Node) ir.Fn {
	first := typesOf(integer(lO), boolean(lO), boolean(lA), integer(lA), integer(lB), integer(lC))
	return ir.Fn{
		Param: integer(lO), Result: integer(lABC), Caps: first[1:], Heap: lO, Exc: lABC,
		Slots: append(slices.Clip(first), slices.Repeat(typesOf(integer(lABC)), 3)...), Body: body, Out: out,
	}
}

// division raises by the label of a slot.
func division(slot, env int) ir.Node {
	return ir.Node{Op: 4, N: api.OpDiv, Dst: freshest, A: intO, B: slot, Env: env}
}

func number(dst, env int) ir.Node {
	return ir.Node{Op: 1, Dst: dst, Env: env}
}

func copied(dst, slot, env int) ir.Node {
	return ir.Node{Op: 3, Dst: dst, A: slot, Env: env}
}

func choice(slot, env int, body, other []ir.Node) ir.Node {
	return ir.Node{Op: 16, A: slot, Env: env, Body: body, Else: other}
}

func attempt(dst, env int, body, other []ir.Node) ir.Node {
	return ir.Node{Op: 17, Dst: dst, Env: env, Body: body, Else: other}
}

// TestBehind (P10.2): AT and X behind nodes, which are told by the Results and Excs that are high enough. Of what isn't come out of there is no AT.
func TestBehind(t *testing.T) {
	l := listOf
	for name, c := range map[string]struct {
		body  []ir.Node
		at, x int
		over  bool
	}{
		"nothing":                 {nil, lO, none, false},
		"a division":              {l(division(intB, lO)), lB, lB, false},
		"two":                     {l(division(intB, lO), division(intC, lB)), lBC, lBC, false},
		"two, the second high":    {l(division(intB, lO), division(intC, lAB)), lABC, lABC, false},
		"by the bottom":           {l(division(intO, lO)), lO, lO, false},
		"high nodes":              {l(number(fresh, lABC), copied(fresher, fresh, lABC)), lO, none, false},
		"a high choice":           {l(choice(boolA, lO, nil, nil)), lO, none, false},
		"a high Env":              {l(choice(boolO, lABC, nil, nil), attempt(fresh, lABC, nil, nil)), lO, none, false},
		"in Body":                 {l(choice(boolO, lO, l(division(intB, lO)), nil)), lB, lB, false},
		"in Else":                 {l(choice(boolO, lO, nil, l(division(intB, lO)))), lB, lB, false},
		"in both":                 {l(choice(boolO, lO, l(division(intC, lO)), l(division(intB, lO)))), lBC, lBC, false},
		"within a":                {l(choice(boolA, lO, l(division(intB, lA)), nil)), lAB, lAB, false},
		"by Env":                  {l(choice(boolO, lC, l(division(intB, lC)), nil)), lBC, lBC, false},
		"ahead and within":        {l(division(intC, lO), choice(boolO, lC, l(division(intB, lC)), nil)), lBC, lBC, false},
		"ahead of a choice":       {l(division(intC, lO), choice(boolA, lC, nil, nil)), lC, lC, false},
		"behind a choice":         {l(choice(boolA, lO, nil, nil), division(intB, lO)), lB, lB, false},
		"one raises":              {l(choice(boolO, lO, l(raising(intB, lO)), nil)), lB, lB, false},
		"the other raises":        {l(choice(boolA, lO, nil, l(raising(intO, lA)))), lA, lA, false},
		"one divides, one raises": {l(choice(boolO, lO, l(division(intB, lO)), l(raising(intC, lO)))), lBC, lBC, false},
		"raised":                  {l(raising(intB, lO)), none, lB, true},
		"raised the bottom":       {l(raising(intO, lO)), none, lO, true},
		"raised by Env":           {l(raising(intB, lC)), none, lBC, true},
		"raised behind":           {l(division(intB, lO), raising(intC, lB)), none, lBC, true},
		"both raise":              {l(choice(boolO, lO, l(raising(intB, lO)), l(raising(intC, lO)))), none, lBC, true},
		"both, ahead":             {l(division(intA, lO), choice(boolO, lA, l(raising(intB, lA)), l(raising(intB, lA)))), none, lAB, true},
		"tried nothing":           {l(attempt(fresh, lO, nil, nil)), lO, none, false},
		"tried":                   {l(attempt(fresh, lO, l(division(intB, lO)), nil)), lO, none, false},
		"tried to raise":          {l(attempt(fresh, lO, l(raising(intB, lO)), nil)), lO, none, false},
		"ahead of a try":          {l(division(intC, lO), attempt(fresh, lC, l(division(intB, lC)), nil)), lC, lC, false},
		"Else of a try":           {l(attempt(fresh, lO, nil, l(division(intB, lO)))), lB, lB, false},
		"Else behind what raises": {l(attempt(fresh, lO, l(division(intC, lO)), l(division(intB, lC)))), lBC, lBC, false},
		"Else alone raises":       {l(attempt(fresh, lO, l(division(intC, lO)), l(raising(intO, lC)))), lC, lC, false},
		"Else of high Env":        {l(attempt(fresh, lABC, l(division(intC, lO)), l(division(intO, lC)))), lC, lC, false},
		"Else raises, ahead":      {l(division(intA, lO), attempt(fresh, lA, nil, l(raising(intB, lA)))), lAB, lAB, false},
		"a try that raises":       {l(attempt(fresh, lO, l(raising(intB, lO)), l(raising(intC, lB)))), none, lBC, true},
		"raises what is raised":   {l(attempt(fresh, lO, l(raising(intO, lO)), l(raising(intB, lO)))), none, lB, true},
		"a try in a try":          {l(attempt(fresh, lO, l(attempt(fresher, lO, l(division(intB, lO)), nil)), l(division(intC, lO)))), lC, lC, false},
		"Else of a try in a try":  {l(attempt(fresh, lO, l(attempt(fresher, lO, nil, l(division(intB, lO)))), l(division(intC, lB)))), lBC, lBC, false},
		"a try in a choice":       {l(choice(boolA, lO, l(attempt(fresh, lA, l(division(intB, lA)), l(division(intO, lAB)))), nil)), lAB, lAB, false},
		"a choice in a try":       {l(attempt(fresh, lO, l(choice(boolA, lO, l(raising(intO, lA)), nil)), l(division(intO, lA)))), lA, lA, false},
		"a choice that raises":    {l(choice(boolO, lO, l(choice(boolO, lO, l(raising(intB, lO)), l(raising(intO, lO)))), l(number(fresh, lO)))), lB, lB, false},
		"all of them raise":       {l(choice(boolO, lO, l(choice(boolA, lO, l(raising(intO, lA)), l(raising(intO, lA)))), l(attempt(fresh, lO, l(raising(intO, lO)), l(raising(intB, lO)))))), none, lAB, true},
	} {
		r := reference{l: sets()}
		out := intO
		if c.over {
			out = none
		}
		f := branched(out, c.body...)
		if !isRight(t, name, sets(), f) {
			t.Errorf("%s: not right", name)
		}
		for label := range 8 {
			f.Result, f.Exc = integer(label), lABC
			if got := isRight(t, name, sets(), f); got != (c.over || r.leq(c.at, label)) {
				t.Errorf("%s: AT below %d: %v", name, label, got)
			}
			f.Result, f.Exc = integer(lABC), label
			if got := isRight(t, name, sets(), f); got != (c.x == none || r.leq(c.x, label)) {
				t.Errorf("%s: X below %d: %v", name, label, got)
			}
		}
		f.Exc = none
		if got := isRight(t, name, sets(), f); got != (c.x == none) {
			t.Errorf("%s: X is None: %v", name, got)
		}
		f.Exc = lABC
		f.Body = slices.Concat(c.body, l(number(fresh, lABC)))
		if got := isRight(t, name, sets(), f); got == c.over {
			t.Errorf("%s: and a node behind: %v", name, got)
		}
		for slot := none; slot < intB; slot++ {
			f = branched(slot, c.body...)
			want := c.over && slot == none || !c.over && (slot == intO || slot == intA)
			if got := isRight(t, name, sets(), f); got != want {
				t.Errorf("%s: OUT %d: %v", name, slot, got)
			}
		}
	}
}

// TestSetBehind (P10.2): which of two slots are set behind nodes.
func TestSetBehind(t *testing.T) {
	l := listOf
	one, other, up := number(fresh, lABC), number(fresher, lABC), raising(intO, lABC)
	for name, c := range map[string]struct {
		body        []ir.Node
		first, last bool
	}{
		"nothing":                      {nil, false, false},
		"one":                          {l(one), true, false},
		"both, twice":                  {l(one, other, one), true, true},
		"in Body":                      {l(choice(boolO, lO, l(one), nil)), false, false},
		"in Else":                      {l(choice(boolO, lO, nil, l(one))), false, false},
		"each in one":                  {l(choice(boolO, lO, l(one), l(other))), false, false},
		"in both":                      {l(choice(boolO, lO, l(one, other), l(one))), true, false},
		"in both, turned":              {l(choice(boolO, lO, l(one), l(other, one))), true, false},
		"ahead":                        {l(one, choice(boolO, lO, nil, l(other))), true, false},
		"ahead and in both":            {l(one, choice(boolO, lO, l(other), l(other))), true, true},
		"in Body, Else raises":         {l(choice(boolO, lO, l(one), l(up))), true, false},
		"in Else, Body raises":         {l(choice(boolO, lO, l(up), l(one))), true, false},
		"Body sets and raises":         {l(choice(boolO, lO, l(one, up), l(other))), false, true},
		"Else sets and raises":         {l(choice(boolO, lO, l(other), l(one, up))), false, true},
		"Body raises":                  {l(choice(boolO, lO, l(one, up), nil)), false, false},
		"within":                       {l(choice(boolO, lO, l(choice(boolA, lO, l(one), l(other, one))), l(one))), true, false},
		"within, one raises":           {l(choice(boolO, lO, l(choice(boolA, lO, l(one), l(up))), l(one))), true, false},
		"within, both raise":           {l(choice(boolO, lO, l(choice(boolA, lO, l(one, up), l(up))), l(other))), false, true},
		"tried":                        {l(attempt(freshest, lO, l(one), nil)), false, false},
		"tried and done":               {l(attempt(freshest, lO, l(one), l(one, other))), true, false},
		"done else":                    {l(attempt(freshest, lO, nil, l(one))), false, false},
		"tried, Else raises":           {l(attempt(freshest, lO, l(one), l(up))), true, false},
		"Body raises, done else":       {l(attempt(freshest, lO, l(up), l(one))), true, false},
		"Body sets, raises; done else": {l(attempt(freshest, lO, l(one, up), l(other))), false, true},
		"ahead of a try":               {l(one, attempt(freshest, lO, l(other), nil)), true, false},
		"the payload":                  {l(attempt(fresh, lO, nil, nil)), false, false},
		"the payload, Body raises":     {l(attempt(fresh, lO, l(up), nil)), true, false},
		"the payload and in Body":      {l(attempt(fresh, lO, l(one), nil)), true, false},
		"the payload, Else raises":     {l(attempt(fresh, lO, l(other), l(up))), false, true},
		"a try within":                 {l(choice(boolO, lO, l(attempt(fresh, lO, l(up), nil)), l(one, other))), true, false},
		"a try within, that raises":    {l(choice(boolO, lO, l(attempt(fresh, lO, l(up), l(up))), l(other))), false, true},
	} {
		for slot, want := range map[int]bool{fresh: c.first, fresher: c.last} {
			if got := isRight(t, name, sets(), branched(slot, c.body...)); got != want {
				t.Errorf("%s: the slot %d is set: %v", name, slot, got)
			}
		}
		if !isRight(t, name, sets(), branched(intO, c.body...)) {
			t.Errorf("%s: not right", name)
		}
	}
}

// TestWithin (P10.2): what AT is, and what is set, within a 16 and a 17.
func TestWithin(t *testing.T) {
	l := listOf
	for name, c := range map[string]struct {
		body []ir.Node
		want bool
	}{
		"Body above a":                     {l(choice(boolA, lO, l(number(fresh, lA)), nil)), true},
		"Body not above a":                 {l(choice(boolA, lO, l(number(fresh, lB)), nil)), false},
		"Body at the bottom":               {l(choice(boolA, lO, l(number(fresh, lO)), nil)), false},
		"Else above a":                     {l(choice(boolA, lO, nil, l(number(fresh, lAC)))), true},
		"Else not above a":                 {l(choice(boolA, lO, nil, l(number(fresh, lBC)))), false},
		"Body by Env":                      {l(choice(boolO, lB, l(number(fresh, lB)), nil)), true},
		"Body below Env":                   {l(choice(boolO, lB, l(number(fresh, lO)), nil)), false},
		"Else by Env and a":                {l(choice(boolA, lB, nil, l(number(fresh, lAB)))), true},
		"Else below Env":                   {l(choice(boolA, lB, nil, l(number(fresh, lA)))), false},
		"Else below a":                     {l(choice(boolA, lB, nil, l(number(fresh, lB)))), false},
		"Else isn't behind Body":           {l(choice(boolO, lO, l(division(intB, lO)), l(number(fresh, lO)))), true},
		"Body behind its division":         {l(choice(boolO, lO, l(division(intB, lO), number(fresh, lO)), nil)), false},
		"Body behind its division, high":   {l(choice(boolO, lO, l(division(intB, lO), number(fresh, lB)), nil)), true},
		"Body reads what is ahead":         {l(number(fresh, lO), choice(boolO, lO, l(copied(fresher, fresh, lO)), nil)), true},
		"Body reads its own":               {l(choice(boolO, lO, l(number(fresh, lO), copied(fresher, fresh, lO)), nil)), true},
		"Else reads what is ahead":         {l(number(fresh, lO), choice(boolO, lO, nil, l(copied(fresher, fresh, lO)))), true},
		"Else reads Body's":                {l(choice(boolO, lO, l(number(fresh, lO)), l(copied(fresher, fresh, lO)))), false},
		"Body reads Else's":                {l(choice(boolO, lO, l(copied(fresher, fresh, lO)), l(number(fresh, lO)))), false},
		"a wrong node in Body":             {l(choice(boolO, lO, l(copied(fresh, boolO, lO)), nil)), false},
		"a wrong node in Else":             {l(choice(boolO, lO, nil, l(copied(fresh, boolO, lO)))), false},
		"a wrong node in Body that raises": {l(choice(boolO, lO, l(copied(fresh, boolO, lO), raising(intO, lO)), nil)), false},
		"Body behind what raises":          {l(choice(boolO, lO, l(raising(intO, lO), number(fresh, lO)), nil)), false},
		"Else behind what raises":          {l(choice(boolO, lO, nil, l(raising(intO, lO), number(fresh, lABC)))), false},
		"tried at Env":                     {l(attempt(fresh, lAB, l(number(fresher, lO)), l(number(fresher, lO)))), true},
		"tried behind a division":          {l(division(intB, lO), attempt(fresh, lB, l(number(fresher, lB)), l(number(fresher, lB)))), true},
		"tried below a division":           {l(division(intB, lO), attempt(fresh, lB, l(number(fresher, lO)), nil)), false},
		"done below a division":            {l(division(intB, lO), attempt(fresh, lB, nil, l(number(fresher, lO)))), false},
		"done below what is raised":        {l(attempt(fresh, lO, l(division(intB, lO)), l(number(fresher, lO)))), false},
		"done at what is raised":           {l(attempt(fresh, lO, l(division(intB, lO)), l(number(fresher, lB)))), true},
		"done below both":                  {l(division(intA, lO), attempt(fresh, lA, l(division(intB, lA)), l(number(fresher, lB)))), false},
		"done at both":                     {l(division(intA, lO), attempt(fresh, lA, l(division(intB, lA)), l(number(fresher, lAB)))), true},
		"tried behind its division":        {l(attempt(fresh, lO, l(division(intB, lO), number(fresher, lO)), nil)), false},
		"Else reads the payload":           {l(attempt(fresh, lO, nil, l(copied(fresher, fresh, lO)))), true},
		"Body reads the payload":           {l(attempt(fresh, lO, l(copied(fresher, fresh, lO)), nil)), false},
		"Else reads what Body sets":        {l(attempt(fresh, lO, l(number(fresher, lO)), l(copied(fresh, fresher, lO)))), false},
		"Else reads what is set ahead":     {l(number(fresher, lO), attempt(fresh, lO, nil, l(copied(fresh, fresher, lO)))), true},
		"Body reads what is set ahead":     {l(number(fresher, lO), attempt(fresh, lO, l(copied(fresh, fresher, lO)), nil)), true},
		"a wrong node is tried":            {l(attempt(fresh, lO, l(copied(fresh, boolO, lO)), nil)), false},
		"a wrong node is done else":        {l(attempt(fresh, lO, nil, l(copied(fresh, boolO, lO)))), false},
		"a wrong node, else all raises":    {l(attempt(fresh, lO, l(copied(fresh, boolO, lO)), l(raising(intO, lO)))), false},
		"tried behind what raises":         {l(attempt(fresh, lO, l(raising(intO, lO), number(fresh, lO)), nil)), false},
		"done behind what raises":          {l(attempt(fresh, lO, nil, l(raising(intO, lO), number(fresh, lO)))), false},
		"behind one that raises":           {l(choice(boolO, lO, l(raising(intO, lO)), nil), number(fresh, lO)), true},
		"behind what both raise":           {l(choice(boolO, lO, l(raising(intO, lO)), l(raising(intO, lO))), number(fresh, lABC)), false},
		"raised as a Bool":                 {l(choice(boolO, lO, l(raising(boolO, lO)), nil)), false},
	} {
		if got := isRight(t, name, sets(), branched(intO, c.body...)); got != c.want {
			t.Errorf("%s: %v", name, got)
		}
	}
}

// TestPayload (P10.2): an Int of AT, joined with what Body raises, is below the type of a 17's Dst; its Env plays no part there.
func TestPayload(t *testing.T) {
	r := reference{l: sets()}
	for _, at := range []int{intO, intA} {
		for _, body := range [][]ir.Node{nil, listOf(division(intB, lA)), listOf(raising(intC, lA)), listOf(choice(boolA, lA, listOf(raising(intC, lA)), listOf(division(intB, lA)))), listOf(number(fresh, lABC), attempt(fresh, lABC, listOf(raising(intB, lA)), nil))} {
			for _, env := range []int{lA, lABC} {
				f := branched(intO, division(at, lO), attempt(fresher, env, body, nil))
				state := known{at: f.Slots[at].Label, x: none, set: map[int]bool{0: true, 1: true, 2: true, 3: true, 4: true, 5: true}}
				want := r.join(state.at, reference{l: sets(), own: f}.through(body, state).x)
				for _, dst := range variants(integer(want)) {
					f.Slots[fresher] = dst
					if got := isRight(t, "payload", sets(), f); got != r.below(integer(want), dst) {
						t.Errorf("%v, Env %d: into %v: %v; want %d", body, env, dst, got, want)
					}
				}
			}
		}
	}
}

// TestEnd (P10.2): OUT is set, and its type, raised by AT, is below Result.
func TestEnd(t *testing.T) {
	r := reference{l: sets()}
	given := pair(lA, integer(lO), ref(lB, boolean(lC)))
	for _, by := range []int{lO, lA, lB, lBC} {
		f := ir.Fn{Param: integer(by), Caps: typesOf(given), Heap: lO, Exc: lABC, Slots: typesOf(integer(by), given, integer(lABC), given), Out: 1}
		f.Body = listOf(ir.Node{Op: 4, N: api.OpMod, Dst: 2, A: 0, B: 0, Env: lO})
		for _, result := range variants(given) {
			f.Result = result
			if got := isRight(t, "end", sets(), f); got != r.below(r.raised(given, by), result) {
				t.Errorf("AT %d, Result %v: %v", by, result, got)
			}
		}
		f.Result, f.Out = r.raised(given, lABC), 3
		if isRight(t, "end", sets(), f) {
			t.Error("OUT isn't set")
		}
		f.Body = append(f.Body, ir.Node{Op: 3, Dst: 3, A: 1, Env: lABC})
		f.Slots[3] = r.raised(given, lABC)
		if !isRight(t, "end", sets(), f) {
			t.Error("OUT is set")
		}
		f.Out = none
		if isRight(t, "end", sets(), f) {
			t.Error("OUT is None")
		}
	}
}

// TestExamples: those of the chapter and the document.
func TestExamples(t *testing.T) {
	low, high := integer(0), integer(1)
	f := ir.Fn{Param: high, Result: low, Exc: none, Slots: typesOf(high, low), Body: listOf(ir.Node{Op: 1, Dst: 1}), Out: 1}
	answers(t, "an Int out of its slot", chain(), []ir.Fn{f}, 0, api.OK)
	f = ir.Fn{Param: high, Result: high, Exc: 1, Slots: typesOf(high, low, high), Body: listOf(ir.Node{Op: 1, Dst: 1}, ir.Node{Op: 4, N: api.OpDiv, Dst: 2, A: 1, B: 0}, ir.Node{Op: 15, A: 1}), Out: 1}
	answers(t, "a division, then 15 on low", chain(), []ir.Fn{f}, 0, api.ErrVerify)
	f.Body[1], f.Body[2] = f.Body[2], f.Body[1]
	answers(t, "15 on low, then a division", chain(), []ir.Fn{f}, 0, api.OK)
	f.Body = listOf(ir.Node{Op: 1, Dst: 1}, ir.Node{Op: 17, Dst: 2, Body: listOf(ir.Node{Op: 4, N: api.OpDiv, Dst: 2, A: 1, B: 0})}, ir.Node{Op: 15, A: 1})
	answers(t, "a division in a try, then 15 on low", chain(), []ir.Fn{f}, 0, api.OK)
}
