package bytes_test

import (
	"encoding/binary"
	"slices"
	"strings"
	"testing"

	"palisade/api"
	"palisade/bytes"
)

// TestExamples (P4.1): the chapter's examples.
func TestExamples(t *testing.T) {
	if b := short(t, nil, 258); string(b) != "\x01\x02" {
		t.Error("Short of 258:", b)
	}
	if b := bytes.Long(nil, -1); string(b) != strings.Repeat("\xff", 8) {
		t.Error("Long of -1:", b)
	}
	if b := text(t, nil, "ab"); string(b) != "\x00\x02ab" {
		t.Error("Text of ab:", b)
	}
}

// TestLongEnds (P4.1): the least long, the greatest one, and one of eight unlike bytes, byte by byte.
func TestLongEnds(t *testing.T) {
	for n, want := range map[int64]string{
		-1 << 63:            "\x80\x00\x00\x00\x00\x00\x00\x00",
		1<<63 - 1:           "\x7f\xff\xff\xff\xff\xff\xff\xff",
		0x0102030405060708:  "\x01\x02\x03\x04\x05\x06\x07\x08",
		-0x0102030405060708: "\xfe\xfd\xfc\xfb\xfa\xf9\xf8\xf8",
		0:                   "\x00\x00\x00\x00\x00\x00\x00\x00",
	} {
		if b := bytes.Long(nil, n); string(b) != want {
			t.Errorf("Long of %d: %v", n, b)
		}
	}
}

// TestShort (P4.1): every short, and b ahead of it.
func TestShort(t *testing.T) {
	for n := range 65536 {
		if b := short(t, nil, n); len(b) != 2 || int(b[0])*256+int(b[1]) != n {
			t.Fatal(n, b)
		}
	}
	for _, b := range behind() {
		for _, n := range shorts {
			if out := short(t, b, n); !slices.Equal(out, binary.BigEndian.AppendUint16(slices.Clone(b), uint16(n))) {
				t.Errorf("Short(%v, %d): %v", b, n, out)
			}
		}
	}
}

// TestNoShort (P4.1): what is no short is refused, and nothing stands beside the error.
func TestNoShort(t *testing.T) {
	for _, b := range behind() {
		for _, n := range noShorts {
			if out, e := bytes.Short(b, n); len(out) != 0 || e != api.ErrRange {
				t.Errorf("Short(%v, %d): %v, %v", b, n, out, e)
			}
		}
	}
}

// TestLong (P4.1).
func TestLong(t *testing.T) {
	for _, b := range behind() {
		for _, n := range longs() {
			if out := bytes.Long(b, n); !slices.Equal(out, binary.BigEndian.AppendUint64(slices.Clone(b), uint64(n))) {
				t.Errorf("Long(%v, %d): %v", b, n, out)
			}
		}
	}
}

// TestText (P4.1): how many bytes, not runes, and these.
func TestText(t *testing.T) {
	for _, b := range behind() {
		for _, s := range texts() {
			want := append(binary.BigEndian.AppendUint16(slices.Clone(b), uint16(len(s))), s...)
			if out := text(t, b, s); !slices.Equal(out, want) {
				t.Errorf("Text(%v, %d bytes) isn't as it should be", b, len(s))
			}
		}
	}
}

// TestTextTooLong (P4.1): one byte more than 65535, and many more; what counts is bytes.
func TestTextTooLong(t *testing.T) {
	for _, s := range []string{strings.Repeat("a", 65536), strings.Repeat("a", 65537), strings.Repeat("日", 21846), strings.Repeat("\x00", 1<<17), strings.Repeat("x", 1<<20+2)} {
		for _, b := range behind() {
			if out, e := bytes.Text(b, s); len(out) != 0 || e != api.ErrLong {
				t.Errorf("Text of %d bytes: %d bytes, %v", len(s), len(out), e)
			}
		}
	}
}
