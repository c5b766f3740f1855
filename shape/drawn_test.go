package shape_test

import (
	"math/rand"
	"testing"

	"palisade/api"
	"palisade/class"
	"palisade/shape"
)

// full is a well formed class in which there is something of all that there may be.
func full() api.Class {
	first := slotted(function(
		op(api.OpLoad, 3), op(api.OpUnless, 5), op(api.OpInt, -5), op(api.OpStore, 0), op(api.OpJump, 8),
		op(api.OpBool, 1), op(api.OpNot), op(api.OpPop), op(api.OpSelf), op(api.OpClose, 1),
		op(api.OpCall), op(api.OpNew), op(api.OpGet), op(api.OpOut, 1), op(api.OpDiv),
		op(api.OpClose, 0), op(api.OpRaise), op(api.OpSet), op(api.OpReturn),
	), 4)
	first.Caps = []api.Type{ref(integer(1)), integer(0)}
	first.Handlers = []api.Handler{{From: 9, To: 13, At: 17}, {From: 0, To: 17, At: 17}, {From: 17, To: 18, At: 18}}
	first.Regions = []api.Region{
		{At: 1, Join: 8, Places: []int{2, 3, 4, 5, 6, 7}},
		{At: 10, Join: none, Places: []int{11, 12, 13, 14, 15, 16, 17, 18}},
		{At: 14, Join: 18, Places: []int{15, 16, 17}},
		{At: 18, Join: none},
	}
	return classOf(chain(), first, long(2), function(op(api.OpRaise)))
}

// TestFull (P14.1): an ordinary class, and what else may stand in it: every thing that is changed is held against the reference.
func TestFull(t *testing.T) {
	asks(t, "full", full(), 0, 0)
	c := roomy(full())
	seen := map[answer]int{}
	each(&c, func() {
		got, want := checked(c), refCheck(c)
		if got != want {
			t.Fatalf("%v is told, not %v: %+v", got, want, c)
		}
		seen[got]++
	})
	for _, want := range []answer{{}, {-1, 0, api.ErrForm}, {0, 1, api.ErrVerify}, {0, 2, api.ErrVerify}, {0, 3, api.ErrVerify}, {0, 4, api.ErrVerify}, {1, 1, api.ErrVerify}, {1, 2, api.ErrVerify}, {1, 3, api.ErrVerify}, {1, 4, api.ErrVerify}} {
		if seen[want] == 0 {
			t.Errorf("%v isn't told of any: %v", want, seen)
		}
	}
}

// drawer draws classes, which are well formed but for one thing in so many.
type drawer struct {
	*rand.Rand
	odd int
}

// never is the odd of classes that are all well formed.
const never = 1 << 40

// number is one at least from and below to, or now and then another one; mostly there is one.
func (d *drawer) number(from, to int) int {
	if d.Intn(d.odd) == 0 || from >= to {
		return max(0, []int{from - 1, to, to + 1, d.Intn(to + 3), 65534}[d.Intn(5)])
	}
	if d.Intn(4) == 0 {
		return []int{from, to - 1}[d.Intn(2)]
	}
	return from + d.Intn(to-from)
}

func (d *drawer) class() api.Class {
	c := api.Class{Lattice: lattices()[d.Intn(3)]}
	count := 1 + d.Intn(4)
	for range count {
		c.Funcs = append(c.Funcs, d.function(count, len(c.Lattice.Names)))
	}
	return c
}

func (d *drawer) function(functions, labels int) api.Func {
	n := 1 + d.Intn(12)
	caps := d.Intn(4)
	slots := min(250, d.number(caps+1, caps+5))
	f := api.Func{Param: integer(0), Result: integer(0), Exc: none}
	for i := range n {
		f.Code = append(f.Code, d.instruction(i, n, slots, functions, labels))
	}
	f = slotted(f, max(1, slots))
	f.Caps = repeat(integer(0), caps)
	switch d.Intn(3 * d.odd) {
	case 0:
		f.Points = f.Points[1:]
	case 1:
		f.Points = append(f.Points, f.Points[0])
	case 2:
		f.Code = nil
	}
	for range d.Intn(3) {
		if n > 1 {
			f.Handlers = append(f.Handlers, d.handler(n))
		}
	}
	f.Regions = d.regions(n)
	return f
}

func (d *drawer) instruction(i, n, slots, functions, labels int) api.Ins {
	if i == n-1 && d.Intn(d.odd) != 0 {
		return op([]int{api.OpReturn, api.OpRaise}[d.Intn(2)])
	}
	which := 1 + d.Intn(27)
	switch which {
	case api.OpInt:
		return op(which, int(d.Uint64()))
	case api.OpBool:
		return op(which, d.Intn(2))
	case api.OpLoad, api.OpStore:
		return op(which, d.number(0, slots))
	case api.OpClose:
		return op(which, d.number(0, functions))
	case api.OpOut:
		return op(which, d.number(0, labels))
	case api.OpJump, api.OpUnless:
		return op(which, d.number(i+1, n))
	}
	return op(which)
}

func (d *drawer) handler(n int) api.Handler {
	at := d.number(1, n)
	to := d.number(1, at+1)
	return api.Handler{From: d.number(0, to), To: to, At: at}
}

func (d *drawer) regions(n int) []api.Region {
	var all []api.Region
	for at := range n {
		if d.Intn(4) != 0 {
			continue
		}
		r := api.Region{At: at, Join: none}
		if at < n-1 && d.Intn(2) == 0 {
			r.Join = d.number(at+1, n)
		}
		for place := at + 1; place < n; place++ {
			if d.Intn(2) == 0 && place != r.Join {
				r.Places = append(r.Places, place)
			}
			if d.Intn(d.odd) == 0 {
				r.Places = append(r.Places, d.number(place, n+1))
			}
		}
		all = append(all, r)
		if d.Intn(d.odd) == 0 {
			all = append(all, api.Region{At: d.number(at, n), Join: none})
		}
	}
	return all
}

// TestDrawnWellFormed (P14.1, P14.3): drawn classes that are well formed have no way back, and none that leads nowhere.
func TestDrawnWellFormed(t *testing.T) {
	d := &drawer{Rand: rand.New(rand.NewSource(14)), odd: never}
	for range 5000 {
		c := d.class()
		if got := checked(c); got != (answer{}) {
			t.Fatalf("%v is told: %+v", got, c)
		}
		onlyForward(t, c)
	}
	onlyForward(t, full())
}

// onlyForward asks of each place that it goes on behind itself, to a place of the function: by any handler that holds it too.
func onlyForward(t *testing.T, c api.Class) {
	t.Helper()
	for _, f := range c.Funcs {
		for at, i := range f.Code {
			var ways []int
			if i.Op == api.OpJump || i.Op == api.OpUnless {
				ways = append(ways, int(i.A))
			}
			if i.Op != api.OpJump && i.Op != api.OpRaise && i.Op != api.OpReturn {
				ways = append(ways, at+1)
			}
			for _, h := range f.Handlers {
				if h.From <= at && at < h.To {
					ways = append(ways, h.At)
				}
			}
			for _, to := range ways {
				if to <= at || to >= len(f.Code) {
					t.Fatalf("a way from %d to %d: %+v", at, to, f)
				}
			}
		}
	}
}

// TestDrawnOdd (P14.1, P14.3): drawn classes that may not be well formed, or not formed, against the reference; those that are told to be so have no way back.
func TestDrawnOdd(t *testing.T) {
	d := &drawer{Rand: rand.New(rand.NewSource(141)), odd: 40}
	seen := map[answer]int{}
	for range 60_000 {
		c := d.class()
		got, want := checked(c), refCheck(c)
		if got != want {
			t.Fatalf("%v is told, not %v: %+v", got, want, c)
		}
		seen[got]++
		if got.e == api.OK {
			onlyForward(t, c)
		}
	}
	for k := range 3 {
		for rule := 1; rule <= 4; rule++ {
			if seen[answer{k, rule, api.ErrVerify}] < 30 {
				t.Error("too few:", k, rule, seen)
			}
		}
	}
	if seen[answer{}] < 5000 {
		t.Error(seen)
	}
}

// TestDrawnBehind (P14.3): whatever formed functions stand behind the first one that isn't well formed, it is told.
func TestDrawnBehind(t *testing.T) {
	d := &drawer{Rand: rand.New(rand.NewSource(142)), odd: 25}
	told := 0
	for range 20_000 {
		c := d.class()
		got := checked(c)
		if got.e != api.ErrVerify {
			continue
		}
		other := classOf(c.Lattice, append([]api.Func{}, c.Funcs...)...)
		for k := got.function + 1; k < len(c.Funcs); k++ {
			other.Funcs[k] = d.function(len(c.Funcs), len(c.Lattice.Names))
		}
		if !class.Formed(other) {
			continue
		}
		told++
		if again := checked(other); again != got {
			t.Fatalf("%v, and with others behind %v: %+v", got, again, other)
		}
	}
	if told < 5000 {
		t.Error("too few:", told)
	}
}

// TestDrawnPops (P14.2): all places of drawn classes, and those around, formed or not.
func TestDrawnPops(t *testing.T) {
	d := &drawer{Rand: rand.New(rand.NewSource(143)), odd: 20}
	for range 5000 {
		c := d.class()
		for _, f := range c.Funcs {
			for at := -2; at < len(f.Code)+2; at++ {
				takes, puts := refPops(f, c, at)
				if a, b := shape.Pops(f, c, at); a != takes || b != puts {
					t.Fatalf("at %d: %d and %d, not %d and %d: %+v", at, a, b, takes, puts, c)
				}
			}
		}
	}
}

func refPops(f api.Func, c api.Class, at int) (int, int) {
	if at < 0 || at >= len(f.Code) {
		return 0, 0
	}
	if i := f.Code[at]; i.Op == api.OpClose {
		for k, g := range c.Funcs {
			if i.A == int64(k) {
				return len(g.Caps), 1
			}
		}
		return 0, 0
	}
	both := stack[f.Code[at].Op]
	return both[0], both[1]
}
