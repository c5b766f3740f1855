package bytes_test

import (
	"math"
	"strings"
	"testing"

	"palisade/api"
	"palisade/bytes"
)

// shorts are the numbers that the chapter names, and what lies beside the bounds of their bytes.
var shorts = []int{0, 1, 2, 127, 128, 255, 256, 257, 258, 511, 513, 32767, 32768, 65279, 65280, 65534, 65535}

// noShorts lie below and above them.
var noShorts = []int{-1, -2, -255, -256, -32768, -65535, -65536, 65536, 65537, 131071, 131072, 1<<31 - 1, 1 << 31, 1 << 32, 1<<32 + 5, math.MaxInt, math.MinInt, math.MinInt + 5}

// longs have each of their bytes at each bound once.
func longs() []int64 {
	all := []int64{0, 1, -1, -2, 258, math.MaxInt64, math.MinInt64, math.MaxInt64 - 1, math.MinInt64 + 1, 0x0102030405060708, -0x0102030405060708}
	for shift := range 64 {
		all = append(all, 1<<shift, -1<<shift, 1<<shift-1, ^(1 << shift))
	}
	return all
}

// texts are such of few and of many bytes, some of which are no runes.
func texts() []string {
	all := []string{"", "a", "ab", "\x00", "\x00\x02ab", "\xff\xfe", "日本", "\x80é\x00", "a b\n"}
	for _, size := range []int{127, 255, 256, 257, 32768, 65534, 65535} {
		all = append(all, strings.Repeat("é\x01", size)[:size])
	}
	return all
}

// behind are what the fields are written behind.
func behind() [][]byte {
	return [][]byte{nil, {}, {9}, {0, 0}, {255, 1, 0, 7, 128}}
}

func short(t *testing.T, b []byte, n int) []byte {
	t.Helper()
	out, e := bytes.Short(b, n)
	if e != api.OK {
		t.Fatalf("Short of %d: %v", n, e)
	}
	return out
}

func text(t *testing.T, b []byte, s string) []byte {
	t.Helper()
	out, e := bytes.Text(b, s)
	if e != api.OK {
		t.Fatalf("Text of %d bytes: %v", len(s), e)
	}
	return out
}

// ask is one call of a reader's, of those that read; limit is Below's.
type ask struct {
	call  byte
	limit int
}

// asks are all of them, Below with limits of all sorts.
func asks() []ask {
	all := []ask{{call: 's'}, {call: 'l'}, {call: 't'}}
	for _, limit := range []int{math.MinInt, -1, 0, 1, 2, 255, 256, 257, 258, 259, 65535, 65536, 1 << 40, math.MaxInt} {
		all = append(all, ask{'b', limit})
	}
	return all
}

// told is what a reader answers to one of the calls that read, and to those that don't, behind it.
type told struct {
	number       int64
	text         string
	left         int
	failed, done bool
}

// answer makes the call, and asks the reader twice how it is: to be asked changes nothing.
func answer(t *testing.T, r *bytes.Reader, a ask) told {
	t.Helper()
	var n int64
	var s string
	switch a.call {
	case 's':
		n = int64(r.Short())
	case 'l':
		n = r.Long()
	case 't':
		s = r.Text()
	case 'b':
		n = int64(r.Below(a.limit))
	}
	first := told{n, s, r.Left(), r.Failed(), r.Done()}
	if second := (told{n, s, r.Left(), r.Failed(), r.Done()}); first != second {
		t.Errorf("asked twice how it is: %v, %v", first, second)
	}
	return first
}

// failedTold is what a reader that has failed answers, whatever it is asked.
var failedTold = told{failed: true}
