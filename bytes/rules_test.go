package bytes_test

import (
	"math"
	"slices"
	"strings"
	"testing"

	"palisade/api"
	"palisade/bytes"
)

// TestNothingPanics (R1): each call at arguments of all sorts, on readers of all sorts, in any order.
func TestNothingPanics(t *testing.T) {
	numbers := append(append([]int{}, shorts...), noShorts...)
	for _, b := range append(behind(), fields()...) {
		for _, n := range numbers {
			bytes.Short(b, n)
			bytes.Long(b, int64(n))
			readers := []*bytes.Reader{nil, {}, bytes.Read(b), bytes.Read(slices.Repeat(b, 50))}
			for _, r := range readers {
				r.Below(n)
				for _, a := range asks() {
					answer(t, r, a)
				}
			}
		}
		for _, s := range append(texts(), strings.Repeat("a", 1<<20)) {
			bytes.Text(b, s)
		}
	}
}

// TestFailedIsNil (R1, P4.4): a nil *Reader at each call, by itself.
func TestFailedIsNil(t *testing.T) {
	var r *bytes.Reader
	if r.Short() != 0 || r.Below(math.MaxInt) != 0 || r.Below(0) != 0 || r.Long() != 0 || r.Text() != "" || r.Left() != 0 || !r.Failed() || r.Done() {
		t.Error("a nil *Reader hasn't failed")
	}
}

// writes are the calls that write, each with one argument that is refused.
func writes() map[string]func(b []byte) []byte {
	return map[string]func(b []byte) []byte{
		"Short":    func(b []byte) []byte { out, _ := bytes.Short(b, 0x0102); return out },
		"no short": func(b []byte) []byte { out, _ := bytes.Short(b, -1); return out },
		"Long":     func(b []byte) []byte { return bytes.Long(b, 0x0102030405060708) },
		"Text":     func(b []byte) []byte { out, _ := bytes.Text(b, "abc"); return out },
		"no text":  func(b []byte) []byte { out, _ := bytes.Text(b, strings.Repeat("a", 65536)); return out },
		"empty":    func(b []byte) []byte { out, _ := bytes.Text(b, ""); return out },
	}
}

// TestWritersLeaveBytes (R5): what is handed in is left as it is, what lies behind its end too, and no two answers share memory, nor one with what was handed in.
func TestWritersLeaveBytes(t *testing.T) {
	for name, write := range writes() {
		for _, size := range []int{0, 1, 5, 20, 40} {
			room := slices.Repeat([]byte{201, 202, 203, 204}, 10)
			before := slices.Clone(room)
			first, second := write(room[:size]), write(room[:size])
			if !slices.Equal(room, before) {
				t.Errorf("%s changed what was handed in: %v", name, room)
			}
			want := slices.Clone(second)
			spoil(first)
			if !slices.Equal(room, before) || !slices.Equal(second, want) {
				t.Errorf("%s: answers and what is handed in share memory", name)
			}
			spoil(room)
			if !slices.Equal(second, want) {
				t.Errorf("%s keeps what was handed in", name)
			}
		}
	}
}

// spoil changes all bytes of b, and its spare room.
func spoil(b []byte) {
	b = b[:cap(b)]
	for i := range b {
		b[i] ^= 0x55
	}
}

// TestReadersLeaveBytes (R5): whatever is read, the bytes are left as they are, what lies behind their end too.
func TestReadersLeaveBytes(t *testing.T) {
	for _, b := range fields() {
		room := append(slices.Clone(b), 0, 7, 0, 8, 0, 9, 0, 10, 0, 11)
		before := slices.Clone(room)
		for _, first := range asks() {
			r, ref := bytes.Read(room[:len(b)]), &refReader{all: b}
			for _, a := range append([]ask{first}, asks()...) {
				if got, want := answer(t, r, a), ref.answer(a); got != want {
					t.Fatalf("of %v: an answer hangs on spare room: %v, but %v", b, got, want)
				}
			}
		}
		if !slices.Equal(room, before) {
			t.Errorf("%v was changed: %v", before, room)
		}
	}
}

// TestBehindItsBack (R5): bytes that are changed behind a reader's back change nothing of what it answers, ahead of the first call or between two.
func TestBehindItsBack(t *testing.T) {
	for _, b := range fields() {
		for _, first := range asks() {
			for _, second := range asks() {
				mine := slices.Clone(b)
				r, ref := bytes.Read(mine), &refReader{all: b}
				for _, a := range []ask{first, second} {
					spoil(mine)
					if r.Left() != len(b)-ref.place && !ref.failed {
						t.Fatal(b, r.Left())
					}
					if got, want := answer(t, r, a), ref.answer(a); got != want {
						t.Fatalf("of %v: %c: %v, but %v", b, a.call, got, want)
					}
				}
			}
		}
	}
}

// TestTextIsKept (R5): a text that was answered stays as it is, whatever is changed or read later.
func TestTextIsKept(t *testing.T) {
	mine := text(t, text(t, nil, "ab"), "cd")
	r := bytes.Read(mine)
	first := r.Text()
	spoil(mine)
	second := r.Text()
	r.Short()
	if first != "ab" || second != "cd" || !r.Failed() {
		t.Error(first, second)
	}
}

// TestReadersDoNotHang (R7): of two readers of the same bytes, and of a reader and its copy, none moves the other or makes it fail.
func TestReadersDoNotHang(t *testing.T) {
	b := []byte{0, 1, 0, 2, 0, 3}
	r, s := bytes.Read(b), bytes.Read(b)
	r.Short()
	copied := *r
	r.Below(0)
	if s.Left() != 6 || s.Short() != 1 || s.Failed() {
		t.Error("another reader was moved")
	}
	if copied.Left() != 4 || copied.Short() != 2 || copied.Short() != 3 || !copied.Done() || !r.Failed() {
		t.Error("a copy was moved")
	}
}

// TestErrorsStandAlone (R3): beside an error there are no bytes, and beside none there is OK.
func TestErrorsStandAlone(t *testing.T) {
	for _, b := range behind() {
		if out, e := bytes.Short(b, 65535); e != api.OK || len(out) != len(b)+2 {
			t.Error(out, e)
		}
		if out, e := bytes.Short(b, 65536); e != api.ErrRange || out != nil {
			t.Error(out, e)
		}
		if out, e := bytes.Text(b, strings.Repeat("a", 65535)); e != api.OK || len(out) != len(b)+65537 {
			t.Error(len(out), e)
		}
		if out, e := bytes.Text(b, strings.Repeat("a", 65536)); e != api.ErrLong || out != nil {
			t.Error(len(out), e)
		}
	}
}
