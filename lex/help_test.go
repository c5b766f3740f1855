package lex_test

import (
	"slices"
	"strconv"
	"strings"
	"testing"

	"palisade/api"
	"palisade/lex"
)

// The kinds of words, as the chapter numbers them.
const (
	isName    = 1
	isKeyword = 2
	isNumber  = 3
	isSign    = 4
)

// keywords are those of the chapter, in its order.
func keywords() []string {
	return strings.Split("lattice, main, let, in, if, then, else, fun, end, raise, try, with, out, new, not, fst, snd, true, false, int, bool, ref, none", ", ")
}

// signs are those of the chapter, in its order.
func signs() []string {
	return strings.Fields("== => -> := ( ) [ ] { } < > , ; : @ ! = + - * / %")
}

// names are such as are no keywords, though some are nearly.
func names() []string {
	return []string{
		"a", "z", "A", "Z", "x1", "aZ09", "α", "ω", "ς", "α1", "aβc", "low",
		"lets", "le", "Let", "LET", "let1", "letin", "i", "nones", "nons", "mainα", "truefalse", "lattices",
		strings.Repeat("a", api.MaxName), strings.Repeat("ω", api.MaxName), "a" + strings.Repeat("9", api.MaxName-1),
	}
}

func numbers() []string {
	return []string{"0", "1", "9", "10", "100", "4096", "9007199254740993", "999999999999999999", "1000000000000000000", "9223372036854775799", "9223372036854775806", "9223372036854775807"}
}

// word is the one of that text, at that place.
func word(kind int, text string, at int) lex.Tok {
	w := lex.Tok{Kind: kind, Text: text, At: at}
	if kind == isNumber {
		w.N, _ = strconv.ParseInt(text, 10, 64)
	}
	return w
}

// words are of all kinds, each at the place 0.
func words() []lex.Tok {
	var all []lex.Tok
	for kind, texts := range [][]string{isName: names(), isKeyword: keywords(), isNumber: numbers(), isSign: signs()} {
		for _, text := range texts {
			all = append(all, word(kind, text, 0))
		}
	}
	return all
}

// between are what may stand between words.
func between() []string {
	return []string{" ", "\t", "\n", " \t\n", "#\n", "##\n", "# let x = 007 é $\n", "\n#\x80\xff\xce\n#\n\t", "#" + strings.Repeat("ω", 100) + "\r\x00\n "}
}

// wants holds what is read against these words.
func wants(t *testing.T, s string, want ...lex.Tok) {
	t.Helper()
	got, at, e := lex.Read(s)
	if e != api.OK || at != 0 || !slices.Equal(got, want) {
		t.Errorf("Read(%.60q) = %v, %d, %v; want %v", s, got, at, e, want)
	}
}

// refuses holds what is read against an error and a place.
func refuses(t *testing.T, s string, place int, want api.Errno) {
	t.Helper()
	if got, at, e := lex.Read(s); e != want || at != place || len(got) != 0 {
		t.Errorf("Read(%.60q) = %d words, %d, %v; want %d, %v", s, len(got), at, e, place, want)
	}
}
