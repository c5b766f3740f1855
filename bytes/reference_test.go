package bytes_test

import (
	"encoding/binary"
	"strings"
)

// refReader is a reader by the chapter's words: bytes, a place among them, and whether it has failed.
type refReader struct {
	all    []byte
	place  int
	failed bool
}

func (r *refReader) answer(a ask) told {
	var out told
	switch a.call {
	case 's':
		out.number = int64(binary.BigEndian.Uint16(r.field(2)))
	case 'b':
		n := int(binary.BigEndian.Uint16(r.field(2)))
		if n >= a.limit {
			r.failed = true
		}
		out.number = int64(n)
	case 'l':
		out.number = int64(binary.BigEndian.Uint64(r.field(8)))
	case 't':
		size := int(binary.BigEndian.Uint16(r.field(2)))
		out.text = string(r.field(size))
	}
	if r.failed {
		return failedTold
	}
	out.left = len(r.all) - r.place
	out.done = out.left == 0
	return out
}

// field is the next so many bytes; zeros, where too few are left.
func (r *refReader) field(size int) []byte {
	if r.failed || len(r.all)-r.place < size {
		r.failed = true
		return []byte(strings.Repeat("\x00", size))
	}
	r.place += size
	return r.all[r.place-size : r.place]
}
