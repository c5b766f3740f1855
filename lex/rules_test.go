package lex_test

import (
	"slices"
	"strings"
	"testing"

	"palisade/api"
	"palisade/lex"
)

// TestNothingPanics (R1): texts of all sorts and sizes, cut at each place.
func TestNothingPanics(t *testing.T) {
	whole := "let α1=(x)==2 # é\x80\n:= =>->! 007 9223372036854775808 \xce\xb1\xce abcdefghijklmnopqrs \xed\xa0\x80 \x00"
	for from := range len(whole) + 1 {
		for to := from; to <= len(whole); to++ {
			lex.Read(whole[from:to])
			lex.Keyword(whole[from:to])
		}
	}
	for _, piece := range []string{"a", "0", "9", "=", "#", " ", "\x80", "\xce", "α"} {
		for _, size := range []int{api.MaxSource - 1, api.MaxSource, api.MaxSource + 1, 1 << 22} {
			lex.Read(strings.Repeat(piece, size)[:size])
			lex.Keyword(strings.Repeat(piece, size))
		}
	}
}

// TestErrorsStandAlone (R3): beside an error there are no words, and beside none there is no place.
func TestErrorsStandAlone(t *testing.T) {
	for s, want := range map[string]api.Errno{
		"a b $": api.ErrLex, "a b 00": api.ErrLex, strings.Repeat("; ", 2001): api.ErrLimit, strings.Repeat("; ", 5000): api.ErrLong,
		"a b": api.OK, "": api.OK, strings.Repeat(";", 2000): api.OK,
	} {
		got, at, e := lex.Read(s)
		if e != want || e != api.OK && got != nil || e == api.OK && at != 0 {
			t.Errorf("Read(%.60q) = %d words, %d, %v", s, len(got), at, e)
		}
	}
}

// TestNewMemory (R5): a list that was answered and is then changed, its spare room too, changes nothing of what is answered later.
func TestNewMemory(t *testing.T) {
	for _, s := range []string{"let x = 1", "(a)", "none", ""} {
		first, _, _ := lex.Read(s)
		want := slices.Clone(first)
		spoil(first, lex.Tok{Kind: 9, Text: "?", N: 9, At: 9})
		wants(t, s, want...)
	}
	spoil(lex.Words(), "x")
	if got := lex.Words(); !slices.Equal(got, keywords()) || lex.Keyword("x") || !lex.Keyword("let") {
		t.Errorf("Words() = %q", got)
	}
	if got := append(lex.Words(), "y"); len(got) != 24 || lex.Keyword("y") {
		t.Errorf("behind Words(): %q", got)
	}
	wants(t, "let x", word(isKeyword, "let", 0), word(isName, "x", 4))
}

// TestAnswersStandApart (R5): of two answers to the same text, one that is changed changes nothing of the other.
func TestAnswersStandApart(t *testing.T) {
	first, _, _ := lex.Read("fun f")
	second, _, _ := lex.Read("fun f")
	third, fourth := lex.Words(), lex.Words()
	spoil(first, lex.Tok{})
	spoil(third, "")
	if !slices.Equal(second, []lex.Tok{word(isKeyword, "fun", 0), word(isName, "f", 4)}) || !slices.Equal(fourth, keywords()) {
		t.Error(second, fourth)
	}
}

func spoil[T any](list []T, with T) {
	list = list[:cap(list)]
	for i := range list {
		list[i] = with
	}
}
