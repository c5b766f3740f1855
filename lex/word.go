package lex

import (
	"strconv"
	"strings"

	"palisade/lattice"
)

// signs are those of one byte.
const signs = "()[]{}<>,;:@!=+-*/%"

// longSigns are those of two bytes, each of which begins with one of one byte.
var longSigns = [...]string{"==", "=>", "->", ":="}

// first is the word that s begins with, r being its first rune, and whether that is one.
func first(s string, r rune) (Tok, bool) {
	switch {
	case letter(r):
		return name(s[:span(s, inName)])
	case digit(r):
		return number(s[:span(s, digit)])
	}
	return sign(s)
}

// name is the word of a letter and of letters and digits behind it, of which there may be too many.
func name(s string) (Tok, bool) {
	if Keyword(s) {
		return Tok{Kind: kindKeyword, Text: s}, true
	}
	return Tok{Kind: kindName, Text: s}, lattice.Name(s)
}

// number is the word of these digits, which may say no number.
func number(s string) (Tok, bool) {
	n, err := strconv.ParseInt(s, 10, 64)
	return Tok{Kind: kindNumber, Text: s, N: n}, err == nil && (s == "0" || s[0] != '0')
}

// sign is the sign that s begins with, and whether there is one.
func sign(s string) (Tok, bool) {
	size := 1
	for _, long := range longSigns {
		if strings.HasPrefix(s, long) {
			size = len(long)
		}
	}
	return Tok{Kind: kindSign, Text: s[:size]}, strings.IndexByte(signs, s[0]) >= 0
}

// span is how many bytes the runes have that s begins with and that are so.
func span(s string, so func(r rune) bool) int {
	for at, r := range s {
		if !so(r) {
			return at
		}
	}
	return len(s)
}

func blank(r rune) bool {
	return r == ' ' || r == '\t' || r == '\n'
}

func inLine(r rune) bool {
	return r != '\n'
}

// letter asks layer 1, whose letters a name's are. Bytes that are no rune come as U+FFFD, which is none.
func letter(r rune) bool {
	return lattice.Name(string(r))
}

func digit(r rune) bool {
	return '0' <= r && r <= '9'
}

func inName(r rune) bool {
	return letter(r) || digit(r)
}
