package bytes_test

import (
	"slices"
	"strings"
	"testing"

	"palisade/bytes"
)

// fields are bytes in which each call finds something, or too little.
func fields() [][]byte {
	return [][]byte{
		nil,
		{0},
		{0, 0},
		{1, 2},
		{0, 1},
		{255, 255},
		{0, 2, 97, 98},
		{0, 2, 97, 98, 0},
		{0, 3, 97, 98},
		{0, 0, 0, 0, 0, 0, 0},
		{0, 0, 0, 0, 0, 0, 0, 0},
		{255, 255, 255, 255, 255, 255, 255, 255},
		{128, 0, 0, 0, 0, 0, 0, 0, 1, 1},
		{1, 2, 3, 4, 5, 6, 7, 8, 0, 1, 9, 10, 0, 4, 0, 2, 0, 1, 0, 0, 0},
		{0, 5, 128, 0, 0, 0, 0, 0, 0, 1, 0, 1, 122, 7},
	}
}

// TestReader (P4.2, P4.3): all rows of up to three calls, held against the reference; behind a failure, all of them go on.
func TestReader(t *testing.T) {
	all := asks()
	rows := [][]ask{}
	for _, a := range all {
		for _, b := range all {
			for _, c := range all {
				rows = append(rows, []ask{a, b, c})
			}
		}
	}
	for _, b := range fields() {
		for _, row := range rows {
			r, ref := bytes.Read(b), &refReader{all: b}
			for i, a := range row {
				if got, want := answer(t, r, a), ref.answer(a); got != want {
					t.Fatalf("of %v: %v: call %d: %v, but the chapter says %v", b, row, i, got, want)
				}
			}
		}
	}
}

// TestReadLong (P4.2, P4.3): many fields one behind another, with each bit once, to the end and one call more.
func TestReadLong(t *testing.T) {
	b := []byte{}
	for _, n := range longs() {
		b = bytes.Long(b, n)
	}
	r := bytes.Read(b)
	for i, n := range longs() {
		left := len(b) - 8*(i+1)
		if got := answer(t, r, ask{call: 'l'}); got != (told{number: n, left: left, done: left == 0}) {
			t.Fatal(n, got)
		}
	}
	if got := answer(t, r, ask{call: 'l'}); got != failedTold {
		t.Error("behind the end:", got)
	}
}

// TestNew (P4.2, P4.3): a reader that was asked nothing stands at place 0, and hasn't failed.
func TestNew(t *testing.T) {
	for _, b := range fields() {
		if r := bytes.Read(b); r.Left() != len(b) || r.Failed() || r.Done() != (len(b) == 0) {
			t.Error(b, r.Left(), r.Failed(), r.Done())
		}
	}
}

// TestBelow (P4.2): a limit of 0, below 0, just the number that stands there, one more, and one less.
func TestBelow(t *testing.T) {
	for _, n := range shorts {
		b := short(t, nil, n)
		for _, limit := range []int{0, -1, -65536, n - 1, n} {
			if got := answer(t, bytes.Read(b), ask{'b', limit}); got != failedTold {
				t.Errorf("%d isn't below %d: %v", n, limit, got)
			}
		}
		for _, limit := range []int{n + 1, n + 2, 65536, 1 << 32} {
			if got := answer(t, bytes.Read(b), ask{'b', limit}); got != (told{number: int64(n), done: true}) {
				t.Errorf("%d is below %d: %v", n, limit, got)
			}
		}
	}
}

// TestLacking (P4.2, P4.3): a field whose last byte lacks, one more, and so on, till all of them do.
func TestLacking(t *testing.T) {
	for _, x := range []struct {
		ask   ask
		field []byte
	}{
		{ask{call: 's'}, short(t, nil, 0x0707)},
		{ask{'b', 65536}, short(t, nil, 0x0707)},
		{ask{call: 'l'}, bytes.Long(nil, 0x0707070707070707)},
		{ask{call: 't'}, text(t, nil, "abcd")},
		{ask{call: 't'}, text(t, nil, "")},
		{ask{call: 't'}, text(t, nil, strings.Repeat("z", 300))},
	} {
		for size := range x.field {
			for _, ahead := range []int{0, 1, 3} {
				r := bytes.Read(append(make([]byte, 2*ahead), x.field[:size]...))
				for range ahead {
					r.Short()
				}
				if r.Failed() || r.Left() != size {
					t.Fatal("ahead of it:", r.Failed(), r.Left())
				}
				if got := answer(t, r, x.ask); got != failedTold {
					t.Errorf("%c with %d of %d bytes: %v", x.ask.call, size, len(x.field), got)
				}
			}
		}
		if got := answer(t, bytes.Read(x.field), x.ask); got.failed || !got.done {
			t.Errorf("%c with all %d bytes: %v", x.ask.call, len(x.field), got)
		}
	}
}

// TestTextSaysMore (P4.2): a text whose length says one byte more than there is, and as many more as can be.
func TestTextSaysMore(t *testing.T) {
	for _, has := range []int{0, 1, 2, 255, 256, 65534} {
		for _, says := range []int{has + 1, has | 256, 65535} {
			if says == has {
				continue
			}
			b := append(short(t, nil, says), make([]byte, has)...)
			if got := answer(t, bytes.Read(b), ask{call: 't'}); got != failedTold {
				t.Errorf("%d bytes, said to be %d: %v", has, says, got)
			}
		}
	}
}

// fails are ways to make a reader fail, with enough bytes left behind the place for every call.
func fails() map[string]func() *bytes.Reader {
	rest := slices.Repeat([]byte{0, 1}, 20)
	return map[string]func() *bytes.Reader{
		"Below": func() *bytes.Reader {
			r := bytes.Read(rest)
			r.Below(1)
			return r
		},
		"Below of 0": func() *bytes.Reader {
			r := bytes.Read(make([]byte, 40))
			r.Below(0)
			return r
		},
		"Text": func() *bytes.Reader {
			r := bytes.Read(append([]byte{0, 41}, rest...))
			r.Text()
			return r
		},
		"Long": func() *bytes.Reader {
			r := bytes.Read(rest[:7])
			r.Long()
			return r
		},
		"Short": func() *bytes.Reader {
			r := bytes.Read(rest[:3])
			r.Short()
			r.Short()
			return r
		},
		"nil": func() *bytes.Reader { return nil },
	}
}

// TestOnceFailed (P4.2, P4.3, P4.4): it answers 0 and no text whatever it is asked, again and again, and so does a nil *Reader.
func TestOnceFailed(t *testing.T) {
	for name, fail := range fails() {
		for _, first := range asks() {
			r := fail()
			if !r.Failed() || r.Left() != 0 || r.Done() {
				t.Fatalf("%s: %v, %d left, done: %v", name, r.Failed(), r.Left(), r.Done())
			}
			for _, a := range append([]ask{first, first}, asks()...) {
				if got := answer(t, r, a); got != failedTold {
					t.Errorf("%s: then %c %d: %v", name, a.call, a.limit, got)
				}
			}
		}
	}
}

// TestZeroReader (P4.4): it has no bytes, so all was read, till it is asked for more; and it is like a reader of none.
func TestZeroReader(t *testing.T) {
	for _, a := range asks() {
		for name, r := range map[string]*bytes.Reader{"zero": {}, "of nil": bytes.Read(nil), "of none": bytes.Read([]byte{})} {
			if r.Failed() || r.Left() != 0 || !r.Done() {
				t.Errorf("%s: %v, %d left, done: %v", name, r.Failed(), r.Left(), r.Done())
			}
			if got := answer(t, r, a); got != failedTold {
				t.Errorf("%s: %c %d: %v", name, a.call, a.limit, got)
			}
		}
	}
}

// TestThereAndBack (P4.4): what is written is read as it was, and nothing is left.
func TestThereAndBack(t *testing.T) {
	b := []byte{}
	for i, s := range texts() {
		b = text(t, short(t, bytes.Long(b, longs()[i]), shorts[i]), s)
		b = short(t, b, shorts[len(shorts)-1-i])
	}
	r := bytes.Read(b)
	for i, s := range texts() {
		if r.Done() || r.Long() != longs()[i] || r.Short() != shorts[i] || r.Text() != s || r.Below(65536) != shorts[len(shorts)-1-i] || r.Failed() {
			t.Fatalf("the fields around text %d weren't read as they were", i)
		}
	}
	if !r.Done() || r.Left() != 0 {
		t.Error(r.Left(), "bytes are left")
	}
}
