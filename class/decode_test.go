package class_test

import (
	"slices"
	"testing"

	"palisade/api"
	"palisade/class"
	"palisade/types"
)

// TestDecodeCut (P13.2): bytes that are cut short at each place, and such as have more behind.
func TestDecodeCut(t *testing.T) {
	for _, c := range []api.Class{classOf(single(), plain()), full(), classOf(cube(), repeat(full().Funcs[1], 60)...)} {
		b := encoded(t, c)
		for k := range b {
			isBad(t, "cut short", b[:k])
			if k%2 == 0 {
				isBad(t, "without its beginning", b[k+1:])
			}
		}
		for _, more := range [][]byte{{0}, {0, 0}, {255}, b, make([]byte, 1000)} {
			isBad(t, "more behind", append(slices.Clone(b), more...))
			isBad(t, "more ahead", append(slices.Clone(more), b...))
		}
	}
	isBad(t, "nothing", nil)
	isBad(t, "nothing", []byte{})
}

// TestDecodeLong (P13.2): ErrLong is asked first, whatever the bytes are.
func TestDecodeLong(t *testing.T) {
	for _, fill := range []byte{0, 80, 255} {
		b := slices.Repeat([]byte{fill}, api.MaxBytes+1)
		if c, e := class.Decode(b); e != api.ErrLong || !empty(c) {
			t.Error(e)
		}
		isBad(t, "as many as may be", b[:api.MaxBytes])
	}
	// The bytes of a class, and zeros behind.
	b := append(encoded(t, full()), make([]byte, api.MaxBytes)...)
	if c, e := class.Decode(b); e != api.ErrLong || !empty(c) {
		t.Error(e)
	}
	isBad(t, "as many as may be", b[:api.MaxBytes])
}

// TestDecodeTurned (P13.2): each byte of a class turned: no class, or another one.
func TestDecodeTurned(t *testing.T) {
	c := full()
	b := encoded(t, c)
	seen := map[api.Errno]int{}
	for k := range b {
		for _, turn := range []byte{1, 2, 3, 4, 5, 6, 7, 8, 12, 16, 32, 64, 128, 255} {
			x := slices.Clone(b)
			x[k] ^= turn
			seen[decoded(t, x)]++
			if d, e := class.Decode(x); e == api.OK && class.Same(c, d) {
				t.Errorf("byte %d turned is the same class", k)
			}
		}
	}
	if seen[api.OK] < 300 || seen[api.ErrBad] < 1000 {
		t.Error(seen)
	}
}

// decoded holds Decode against the reference.
func decoded(t *testing.T, b []byte) api.Errno {
	t.Helper()
	c, e := class.Decode(b)
	want, ok := refDecode(b)
	if ok != (e == api.OK) || !ok && e != api.ErrBad || told(c) != told(want) {
		t.Fatalf("error %d, %v\n%x\n%+v\n%+v", e, ok, b, c, want)
	}
	if ok {
		again, e := class.Encode(c)
		if e != api.OK || string(again) != string(b) {
			t.Fatalf("error %d\n%x\n%x", e, again, b)
		}
	}
	return e
}

// TestDecodeHead (P13.2): the beginning, and the lattice.
func TestDecodeHead(t *testing.T) {
	base := classOf(chain(), plain())
	rest := encoded(t, base)[4+2+5+6+4:]
	if decoded(t, fields(20563, 1, 2, "low", "high", 3, 2, rest)) != api.OK {
		t.Fatal("the pieces aren't right")
	}
	for name, head := range map[string][]byte{
		"another mark":      fields(20562, 1, 2, "low", "high", 3, 2),
		"no mark":           fields(0, 1, 2, "low", "high", 3, 2),
		"another version":   fields(20563, 2, 2, "low", "high", 3, 2),
		"no version":        fields(20563, 0, 2, "low", "high", 3, 2),
		"both turned":       fields(1, 20563, 2, "low", "high", 3, 2),
		"no labels":         fields(20563, 1, 0),
		"one label less":    fields(20563, 1, 1, "low", "high", 3, 2),
		"one label more":    fields(20563, 1, 3, "low", "high", 3, 2),
		"very many labels":  fields(20563, 1, 65535, "low", "high", 3, 2),
		"names alike":       fields(20563, 1, 2, "low", "low", 3, 2),
		"no name":           fields(20563, 1, 2, "low", "", 3, 2),
		"a digit":           fields(20563, 1, 2, "low", "1", 3, 2),
		"no UTF-8":          fields(20563, 1, 2, "low", "\xce", 3, 2),
		"a long name":       fields(20563, 1, 2, "low", "abcdefghijklmnopq", 3, 2),
		"not below itself":  fields(20563, 1, 2, "low", "high", 2, 2),
		"below one another": fields(20563, 1, 2, "low", "high", 3, 3),
		"no join":           fields(20563, 1, 2, "low", "high", 1, 2),
		"nothing":           fields(20563, 1, 2, "low", "high", 0, 0),
		"below a third":     fields(20563, 1, 2, "low", "high", 7, 2),
		"below the last":    fields(20563, 1, 2, "low", "high", 3, 2+32768),
		"nine labels":       fields(20563, 1, 9, "a", "b", "c", "d", "e", "f", "g", "h", "i", 511, 510, 508, 504, 496, 480, 448, 384, 256),
	} {
		isBad(t, name, fields(head, rest))
	}
	eight := fields(20563, 1, 8, "a", "b", "c", "d", "e", "f", "g", "abcdefghijklmnop", 255, 254, 252, 248, 240, 224, 192, 128)
	if decoded(t, fields(eight, rest)) != api.OK || decoded(t, fields(20563, 1, 2, "low", "high", 1, 3, rest)) != api.OK {
		t.Error("eight labels, or a turned order")
	}
}

// TestDecodePool (P13.2): pools of another order, with a type twice, with one that nothing names, with such as aren't formed or stand ahead of their Parts.
func TestDecodePool(t *testing.T) {
	// with is bytes of a pool and of a function that takes and gives those places, and has those in its slots.
	with := func(pool []byte, param, result int, slots ...int) []byte {
		var all []byte
		for _, s := range slots {
			all = append(all, fields(s)...)
		}
		return fields(20563, 1, 2, "low", "high", 3, 2, pool, 1, param, result, 0, 0, 0, max(1, len(slots)), 0, 0, min(1, len(slots)), make([]byte, 2*min(1, len(slots))), all, make([]byte, 2*min(1, len(slots))), 0)
	}
	for name, b := range map[string][]byte{
		"one type":                    with(fields(1, 1, 0), 0, 0),
		"two types":                   with(fields(2, 1, 0, 1, 1), 0, 1),
		"a Pair":                      with(fields(2, 1, 0, 3, 0, 0, 0), 1, 1),
		"a Pair that is met later":    with(fields(2, 1, 0, 3, 0, 0, 0), 0, 1),
		"a slot's":                    with(fields(2, 1, 0, 2, 0), 0, 0, 0, 2, 1, 0, 2),
		"a Fun":                       with(fields(2, 1, 0, 4, 1, 0, 0, 1, 2), 1, 0),
		"a Fun that never raises":     with(fields(2, 1, 0, 4, 1, 0, 0, 1, 0), 1, 0),
		"Refs of Refs, six deep":      with(fields(6, 1, 0, 5, 0, 0, 5, 0, 1, 5, 0, 2, 5, 0, 3, 5, 0, 4), 5, 5),
		"a great one (31 nodes)":      with(fields(5, 1, 0, 3, 0, 0, 0, 3, 0, 1, 1, 3, 0, 2, 2, 3, 0, 3, 3), 4, 4),
		"a great one (40 nodes)":      with(fields(7, 1, 0, 3, 0, 0, 0, 3, 0, 1, 1, 3, 0, 2, 2, 3, 0, 3, 3, 5, 0, 2, 3, 0, 4, 5), 6, 6),
		"slots that are zero":         with(fields(1, 1, 0), 0, 0, 0, 0, 0),
		"a slot's, met first by that": with(fields(3, 1, 0, 5, 1, 0, 2, 1), 0, 0, 2, 3, 0),
	} {
		if decoded(t, b) != api.OK {
			t.Errorf("%s: refused", name)
		}
	}
	for name, b := range map[string][]byte{
		"no types":                       with(fields(0), 0, 0),
		"in the other order":             with(fields(2, 1, 1, 1, 0), 1, 0),
		"in the other order, of slots":   with(fields(3, 1, 0, 2, 0, 2, 1), 0, 0, 3, 2),
		"Parts in the other order":       with(fields(3, 1, 0, 1, 1, 3, 0, 1, 0), 2, 2),
		"twice":                          with(fields(2, 1, 0, 1, 0), 0, 1),
		"twice, named once":              with(fields(2, 1, 0, 1, 0), 0, 0),
		"a Pair twice":                   with(fields(3, 1, 0, 3, 0, 0, 0, 3, 0, 0, 0), 1, 2),
		"a Part twice":                   with(fields(3, 1, 0, 1, 0, 3, 0, 0, 1), 2, 2),
		"named by nothing":               with(fields(2, 1, 0, 1, 1), 0, 0),
		"first, named by nothing":        with(fields(2, 1, 1, 1, 0), 1, 1),
		"named by what nothing names":    with(fields(3, 1, 0, 1, 1, 5, 0, 1), 0, 0),
		"a place behind":                 with(fields(1, 1, 0), 0, 1),
		"a place far behind":             with(fields(1, 1, 0), 65535, 0),
		"a slot's place behind":          with(fields(1, 1, 0), 0, 0, 2),
		"a slot's place far behind":      with(fields(1, 1, 0), 0, 0, 1, 65535),
		"a Part that is itself":          with(fields(1, 5, 0, 0), 0, 0),
		"a Part that is behind":          with(fields(2, 5, 0, 1, 1, 0), 0, 1),
		"a Part that is nowhere":         with(fields(2, 1, 0, 5, 0, 2), 1, 0),
		"a second Part that is itself":   with(fields(2, 1, 0, 3, 0, 0, 1), 1, 0),
		"a Kind of 0":                    with(fields(1, 0, 0), 0, 0),
		"a Kind of 0 beside":             with(fields(2, 1, 0, 0, 0), 0, 0, 2),
		"a Kind of 6":                    with(fields(1, 6, 0), 0, 0),
		"a Kind of 65535":                with(fields(1, 65535, 0), 0, 0),
		"a Label that is none":           with(fields(1, 1, 2), 0, 0),
		"a Heap that is none":            with(fields(2, 1, 0, 4, 0, 0, 0, 2, 0), 1, 0),
		"an Exc that is none":            with(fields(2, 1, 0, 4, 0, 0, 0, 0, 3), 1, 0),
		"Refs of Refs, seven deep":       with(fields(7, 1, 0, 5, 0, 0, 5, 0, 1, 5, 0, 2, 5, 0, 3, 5, 0, 4, 5, 0, 5), 6, 6),
		"too great a one (41 nodes)":     with(fields(7, 1, 0, 3, 0, 0, 0, 3, 0, 1, 1, 3, 0, 2, 2, 3, 0, 3, 3, 3, 0, 2, 0, 3, 0, 4, 5), 6, 6),
		"too great a one (63 nodes)":     with(fields(6, 1, 0, 3, 0, 0, 0, 3, 0, 1, 1, 3, 0, 2, 2, 3, 0, 3, 3, 3, 0, 4, 4), 5, 5),
		"a pool that is too short":       with(fields(3, 1, 0, 1, 1), 0, 1),
		"a pool that is too long":        with(fields(1, 1, 0, 1, 1), 0, 0),
		"a Pair that has one place":      with(fields(2, 1, 0, 3, 0, 0), 1, 0),
		"an Int that has bounds as well": with(fields(1, 1, 0, 0, 0), 0, 0),
	} {
		isBad(t, name, b)
		decoded(t, b)
	}
}

// TestDecodeSwelling (P13.2, R1): few bytes that tell of types of more nodes than there is memory for.
func TestDecodeSwelling(t *testing.T) {
	for _, kind := range []int{api.Pair, api.Fun} {
		for _, count := range []int{7, 10, 60, 1000, 30_000} {
			pool := fields(count, 1, 0)
			for i := range count - 1 {
				pool = append(pool, fields(kind, 0, i, i)...)
				if kind == api.Fun {
					pool = append(pool, fields(0, 0)...)
				}
			}
			if b := fields(20563, 1, 1, "low", 1, pool, 1, count-1, count-1, 0, 0, 0, 1, 0, 0, 0, 0); len(b) <= api.MaxBytes {
				isBad(t, "types within types", b)
			}
		}
	}
	// One of some thousand nodes in each of very many slots.
	pool := fields(11, 1, 0)
	for i := range 10 {
		pool = append(pool, fields(api.Pair, 0, i, i)...)
	}
	point := fields(0, slices.Repeat(fields(11), 250), 0)
	isBad(t, "a great type in many slots", fields(20563, 1, 1, "low", 1, pool, 1, 0, 0, 0, 0, 0, 250, 0, 0, 500, slices.Repeat(point, 500), 0))
}

// TestDecodeFunctions (P13.2): numbers of functions, and of what is in them, at the edges and beyond.
func TestDecodeFunctions(t *testing.T) {
	head := fields(20563, 1, 2, "low", "high", 3, 2, 1, 1, 0)
	one := fields(0, 0, 0, 0, 0, 1, 0, 0, 0, 0)
	repeated := func(b []byte, n int) []byte { return slices.Repeat(b, n) }
	// asked is what there are in one function, between what stands ahead and behind.
	asked := func(ahead []byte, n int, each, behind []byte) []byte {
		return fields(head, 1, ahead, n, repeated(each, n), behind)
	}
	zero := func(n int) []byte { return make([]byte, 2*n) }
	for name, x := range map[string]struct {
		b  []byte
		ok bool
	}{
		"no functions":          {fields(head, 0), false},
		"one function":          {fields(head, 1, one), true},
		"60 functions":          {fields(head, 60, repeated(one, 60)), true},
		"61 functions":          {fields(head, 61, repeated(one, 61)), false},
		"one that isn't there":  {fields(head, 2, one), false},
		"one too many":          {fields(head, 1, one, one), false},
		"16 Caps":               {asked(zero(2), 16, zero(1), fields(0, 0, 1, zero(4))), true},
		"17 Caps":               {asked(zero(2), 17, zero(1), fields(0, 0, 1, zero(4))), false},
		"a Heap":                {fields(head, 1, zero(3), 1, 0, 1, zero(4)), true},
		"no Heap":               {fields(head, 1, zero(3), 2, 0, 1, zero(4)), false},
		"an Exc":                {fields(head, 1, zero(3), 0, 2, 1, zero(4)), true},
		"no Exc":                {fields(head, 1, zero(3), 0, 3, 1, zero(4)), false},
		"no slots":              {fields(head, 1, zero(3), 0, 0, 0, zero(4)), false},
		"250 slots":             {fields(head, 1, zero(3), 0, 0, 250, 0, 0, 1, 0, zero(250), 0, 0), true},
		"251 slots":             {fields(head, 1, zero(3), 0, 0, 251, 0, 0, 1, 0, zero(251), 0, 0), false},
		"251 slots, no point":   {fields(head, 1, zero(3), 0, 0, 251, zero(4)), false},
		"65535 slots":           {fields(head, 1, zero(3), 0, 0, 65535, zero(4)), false},
		"2000 instructions":     {asked(fields(zero(5), 1), 2000, fields(5), zero(3)), true},
		"2001 instructions":     {asked(fields(zero(5), 1), 2001, fields(5), zero(3)), false},
		"2000 handlers":         {asked(fields(zero(5), 1, 0), 2000, zero(3), zero(2)), true},
		"2001 handlers":         {asked(fields(zero(5), 1, 0), 2001, zero(3), zero(2)), false},
		"2000 points":           {asked(fields(zero(5), 1, 0, 0), 2000, zero(3), zero(1)), true},
		"2001 points":           {asked(fields(zero(5), 1, 0, 0), 2001, zero(3), zero(1)), false},
		"2000 regions":          {asked(fields(zero(5), 1, 0, 0, 0), 2000, zero(3), nil), true},
		"2001 regions":          {asked(fields(zero(5), 1, 0, 0, 0), 2001, zero(3), nil), false},
		"2000 Places":           {asked(fields(zero(5), 1, 0, 0, 0, 1, 0, 0), 2000, zero(1), nil), true},
		"2001 Places":           {asked(fields(zero(5), 1, 0, 0, 0, 1, 0, 0), 2001, zero(1), nil), false},
		"8 on the Stack":        {asked(fields(zero(5), 1, 0, 0, 1), 8, zero(1), zero(3)), true},
		"9 on the Stack":        {asked(fields(zero(5), 1, 0, 0, 1), 9, zero(1), zero(3)), false},
		"an Env":                {fields(head, 1, zero(5), 1, 0, 0, 1, 0, 0, 1, 0), true},
		"no Env":                {fields(head, 1, zero(5), 1, 0, 0, 1, 0, 0, 2, 0), false},
		"a truth":               {fields(head, 1, zero(5), 1, 1, 2, 1, zero(3)), true},
		"no truth":              {fields(head, 1, zero(5), 1, 1, 2, 2, zero(3)), false},
		"a new cell":            {fields(head, 1, zero(5), 1, 1, 20, 0, zero(3)), true},
		"a new cell of nothing": {fields(head, 1, zero(5), 1, 1, 20, 1, zero(3)), false},
		"an Op of 0":            {fields(head, 1, zero(5), 1, 1, 0, zero(3)), false},
		"an Op of 27":           {fields(head, 1, zero(5), 1, 1, 27, zero(3)), true},
		"an Op of 28":           {fields(head, 1, zero(5), 1, 1, 28, zero(3)), false},
		"an Op of 65535":        {fields(head, 1, zero(5), 1, 1, 65535, zero(3)), false},
		"a Join of 65534":       {fields(head, 1, zero(5), 1, 0, 0, 0, 1, 65535, 65535, 1, 65535), true},
	} {
		if e := decoded(t, x.b); (e == api.OK) != x.ok {
			t.Errorf("%s: error %d", name, e)
		}
	}
}

// TestDecodeOps (P13.2): of each Op just what it has.
func TestDecodeOps(t *testing.T) {
	head := fields(20563, 1, 1, "low", 1, 1, 1, 0, 1, 0, 0, 0, 0, 0, 1)
	for op := range 40 {
		seen := 0
		for count := range 12 {
			b := fields(head, 1, op, make([]byte, count), 0, 0, 0)
			if decoded(t, b) == api.OK {
				seen++
				want := api.Ins{Op: op}
				if op == api.OpNew {
					want.T = integer(0)
				}
				if c, _ := class.Decode(b); len(c.Funcs) != 1 || len(c.Funcs[0].Code) != 1 || c.Funcs[0].Code[0].Op != op || !types.Same(c.Funcs[0].Code[0].T, want.T) {
					t.Error(op, count, c)
				}
			}
		}
		if (seen == 1) != (op >= 1 && op <= 27) {
			t.Errorf("Op %d: %d", op, seen)
		}
	}
}
