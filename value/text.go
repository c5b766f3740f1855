package value

import (
	"strconv"
	"strings"

	"palisade/api"
)

// Text is how v is told; ErrForm, if it isn't formed.
func Text(v api.Value) (string, api.Errno) {
	if !Formed(v) {
		return "", api.ErrForm
	}
	var b strings.Builder
	write(&b, v)
	return b.String(), api.OK
}

// write is asked of a formed value.
func write(b *strings.Builder, v api.Value) {
	switch v.Kind {
	case api.Int:
		b.WriteString(strconv.FormatInt(v.N, 10))
	case api.Bool:
		b.WriteString(strconv.FormatBool(v.N == 1))
	case api.Pair:
		writeAll(b, "(", v.Parts, ")")
	case api.Fun:
		b.WriteString("fun " + strconv.FormatInt(v.N, 10))
		if len(v.Parts) > 0 {
			writeAll(b, " [", v.Parts, "]")
		}
	case api.Ref:
		b.WriteString("ref " + strconv.FormatInt(v.N, 10))
	}
}

// writeAll writes values between brackets.
func writeAll(b *strings.Builder, opening string, parts []api.Value, closing string) {
	b.WriteString(opening)
	for i, part := range parts {
		if i > 0 {
			b.WriteString(", ")
		}
		write(b, part)
	}
	b.WriteString(closing)
}
