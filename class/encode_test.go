package class_test

import (
	"math"
	"testing"

	"palisade/api"
	"palisade/class"
)

// written asks for the bytes of a class, and for the class of the bytes.
func written(t *testing.T, name string, c api.Class, want []byte) {
	t.Helper()
	b, e := class.Encode(c)
	if e != api.OK || string(b) != string(want) {
		t.Errorf("%s: error %d\n%x\n%x", name, e, b, want)
	}
	if string(refBytes(c)) != string(want) {
		t.Errorf("%s: the reference has\n%x\n%x", name, refBytes(c), want)
	}
	d, e := class.Decode(want)
	if e != api.OK || told(d) != told(c) || !class.Same(c, d) {
		t.Errorf("%s: error %d\n%+v\n%+v", name, e, d, c)
	}
}

// TestEncodePlain (P13.1): the least class.
func TestEncodePlain(t *testing.T) {
	written(t, "plain", classOf(single(), plain()), []byte{
		80, 83, 0, 1, 0, 1, 0, 3, 108, 111, 119, 0, 1, // low
		0, 1, 0, 1, 0, 0, // int@low
		0, 1, 0, 0, 0, 0, 0, 0, 0, 0, 0, 1, 0, 1, // a function of Exc 0, and of one slot
		0, 0, 0, 0, 0, 0, 0, 0, // nothing
	})
}

// TestEncodeLattices (P13.1): names as texts, by their bytes, and of each label those that it is below.
func TestEncodeLattices(t *testing.T) {
	rest := fields(1, 1, 0, 1, 0, 0, 0, 0, 1, 1, 0, 0, 0, 0)
	for _, x := range []struct {
		l    api.Lattice
		want []byte
	}{
		{single(), fields(1, "low", 1)},
		{chain(), fields(2, "low", "high", 3, 2)},
		{diamond(), fields(4, "low", "left", "right", "high", 15, 10, 12, 8)},
		{makeLattice([]string{"top", "bottom"}, [2]int{1, 0}), fields(2, "top", "bottom", 1, 3)},
		{cube(), fields(8, "all", "ab", "ac", "a", "bc", "b", "c", "\u03b1\u03c9", 1, 3, 5, 15, 17, 51, 85, 255)},
		{makeLattice([]string{"\u03b1234567890123456"}), fields(1, []byte{0, 17}, []byte("\u03b1234567890123456"), 1)},
	} {
		written(t, "lattice", classOf(x.l, plain()), fields(20563, 1, x.want, rest))
	}
}

// TestEncodeFull (P13.1): a class in which there is something of all that there may be.
func TestEncodeFull(t *testing.T) {
	written(t, "full", full(), fields(
		20563, 1, 4, "low", "left", "right", "high", 15, 10, 12, 8,
		8,    // The pool:
		1, 0, // 0: int@low
		2, 3, // 1: bool@high
		5, 2, 1, // 2: a Ref of that
		4, 1, 0, 2, 2, 0, // 3: a Fun of both, of Heap 2, that never raises
		3, 0, 0, 0, // 4: a Pair
		5, 0, 4, // 5: a Ref of that
		2, 0, // 6: bool@low
		1, 2, // 7: int@right
		2,                      // The functions:
		3, 4, 2, 1, 0, 1, 4, 3, // Param, Result, two Caps, Heap, Exc, Slots
		27, 1, int64(-2), 2, 1, 3, 769, 4, 1025, 5, 6, 7, 8, 9, 10, 11, 12, 13, 14, 15, 16, 17, 4353, 18, 19, 20, 5, 21, 22, 23, 5889, 24, 6145, 25, 6401, 26, 27,
		2, 0, 4, 7, 65535, 0, 1,
		3, 0, 4, 2, 1, 0, 3, 0, 6, 4, 4, 0, 0, 3, 1, 0, 0, 3, 0, 1,
		3, 3, 0, 3, 4, 5, 6, 4, 1, 0, 9, 65535, 1, 65535,
		1, 7, 0, 0, 0, 1, 0, 0, 0, 0,
	))
}

// TestEncodeNumbers (P13.1): the least and greatest numbers of each field.
func TestEncodeNumbers(t *testing.T) {
	head := fields(20563, 1, 1, "low", 1, 1, 1, 0, 1, 0, 0, 0, 0, 1, 1)
	for _, n := range []int64{math.MinInt64, -65537, -2, -1, 0, 1, 255, 256, 65535, 65536, math.MaxInt64} {
		f := plain()
		f.Code = []api.Ins{{Op: api.OpInt, A: n}}
		written(t, "OpInt", classOf(single(), f), fields(head, 1, 1, n, 0, 0, 0))
	}
	for _, n := range []int{0, 1, 255, 256, 32767, 32768, 65534, 65535} {
		for _, op := range []int{api.OpBool, api.OpLoad, api.OpStore, api.OpClose, api.OpOut, api.OpJump, api.OpUnless} {
			if op == api.OpBool && n > 1 {
				continue
			}
			f := plain()
			f.Code = []api.Ins{{Op: op, A: int64(n)}}
			written(t, "Op", classOf(single(), f), fields(head, 1, op, n, 0, 0, 0))
		}
		f := plain()
		f.Handlers = []api.Handler{{From: n}, {To: n}, {At: n}}
		f.Regions = []api.Region{{At: n}, {Places: []int{n, 3, n}}}
		written(t, "numbers", classOf(single(), f), fields(head, 0, 3, n, 0, 0, 0, n, 0, 0, 0, n, 0, 2, n, 1, 0, 0, 1, 3, n, 3, n))
		if n > 0 {
			f.Handlers, f.Regions = nil, []api.Region{{Join: n - 1}}
			written(t, "Join", classOf(single(), f), fields(head, 0, 0, 0, 1, 0, n, 0))
		}
	}
	f := plain()
	f.Regions = []api.Region{{Join: none}}
	written(t, "Join of None", classOf(single(), f), fields(head, 0, 0, 0, 1, 0, 0, 0))
	f = plain()
	f.Exc, f.Slots = none, 250
	written(t, "Exc of None", classOf(single(), f), fields(20563, 1, 1, "low", 1, 1, 1, 0, 1, 0, 0, 0, 0, 0, 250, 0, 0, 0, 0))
}

// TestEncodeWithoutForm (P13.1): ErrForm is asked ahead of ErrLong.
func TestEncodeWithoutForm(t *testing.T) {
	c := sized(api.MaxBytes + 2000)
	c.Funcs[0].Heap = 1
	if b, e := class.Encode(c); e != api.ErrForm || len(b) != 0 {
		t.Error(e, len(b))
	}
	c.Funcs[0].Heap = 0
	if b, e := class.Encode(c); e != api.ErrLong || len(b) != 0 {
		t.Error(e, len(b))
	}
	c = many(100_000)
	c.Funcs[0].Regions = []api.Region{{At: -1}}
	if b, e := class.Encode(c); e != api.ErrForm || len(b) != 0 {
		t.Error(e, len(b))
	}
}

// sized is a class of so many bytes, at least 300: its only name is of two or three letters, and the rest is regions, each of six bytes and two for each of its Places.
func sized(size int) api.Class {
	name := "lo"
	if size%2 == 1 {
		name = "low"
	}
	f := plain()
	c := classOf(makeLattice([]string{name}), f)
	left := size - len(refBytes(c))
	for left > 0 {
		places := min(2000, (left-6)/2)
		if left-6-2*places > 0 && left-6-2*places < 6 {
			places -= 3
		}
		f.Regions = append(f.Regions, api.Region{At: len(f.Regions), Join: none, Places: repeat(maxShort, places)})
		left -= 6 + 2*places
	}
	c.Funcs[0] = f
	return c
}

// TestEncodeSizes (P13.1, P13.2): classes of MaxBytes bytes, of less, and of more.
func TestEncodeSizes(t *testing.T) {
	for size := api.MaxBytes - 9; size <= api.MaxBytes+9; size++ {
		c := sized(size)
		want := refBytes(c)
		if len(want) != size {
			t.Fatalf("%d bytes, not %d", len(want), size)
		}
		if size <= api.MaxBytes {
			written(t, "few enough", c, want)
			continue
		}
		if b, e := class.Encode(c); e != api.ErrLong || len(b) != 0 || !class.Formed(c) || len(class.Pool(c)) != 1 {
			t.Errorf("%d bytes: error %d", size, e)
		}
		if d, e := class.Decode(want); e != api.ErrLong || !empty(d) {
			t.Errorf("%d bytes: error %d of Decode", size, e)
		}
	}
}

// TestEncodeLong (P13.1): too much of each thing that may be too much, in the first function and in the last.
func TestEncodeLong(t *testing.T) {
	for name, f := range map[string]api.Func{
		"points":       {Points: repeat(api.Point{Slots: make([]api.Type, 250)}, 2000), Slots: 250},
		"Places":       {Regions: repeat(api.Region{Places: make([]int, 2000)}, 2000), Slots: 1},
		"instructions": {Code: repeat(api.Ins{Op: api.OpInt}, 2000), Slots: 1},
		"handlers":     {Handlers: make([]api.Handler, 2000), Slots: 1},
	} {
		f.Param, f.Result = integer(0), integer(0)
		c := classOf(single(), repeat(f, 60)...)
		if b, e := class.Encode(c); e != api.ErrLong || len(b) != 0 {
			t.Errorf("%s: error %d", name, e)
		}
		if name == "points" || name == "Places" {
			c.Funcs = append(repeat(plain(), 59), f)
			if b, e := class.Encode(c); e != api.ErrLong || len(b) != 0 {
				t.Errorf("%s at the end: error %d", name, e)
			}
		}
	}
}
