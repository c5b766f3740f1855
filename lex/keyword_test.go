package lex_test

import (
	"slices"
	"strings"
	"testing"

	"palisade/api"
	"palisade/lex"
)

// TestWords (P5.2): all of them, in the chapter's order.
func TestWords(t *testing.T) {
	if got := lex.Words(); !slices.Equal(got, keywords()) {
		t.Errorf("Words() = %q", got)
	}
}

// TestKeyword (P5.2): each keyword is one; what is shorter, longer or written otherwise isn't, nor are other words.
func TestKeyword(t *testing.T) {
	for _, k := range keywords() {
		if !lex.Keyword(k) {
			t.Errorf("%q is none", k)
		}
		for _, s := range []string{k[1:], k[:len(k)-1], k + k, k + "s", k + " ", " " + k, k + "\x00", strings.ToUpper(k), strings.ToUpper(k[:1]) + k[1:]} {
			if lex.Keyword(s) != slices.Contains(keywords(), s) {
				t.Errorf("Keyword(%q) = %v", s, lex.Keyword(s))
			}
		}
	}
	others := append(append(names(), numbers()...), signs()...)
	for _, s := range append(others, "", " ", "\x80", "let in", "let, in", "int\x80", strings.Repeat("let", api.MaxSource)) {
		if lex.Keyword(s) {
			t.Errorf("%.60q is one", s)
		}
	}
}

// TestKeywordsAreRead (P5.1, P5.2): a word is read as a keyword just if it is one.
func TestKeywordsAreRead(t *testing.T) {
	for _, s := range append(names(), keywords()...) {
		got, _, e := lex.Read(s)
		if e != api.OK || len(got) != 1 || (got[0].Kind == isKeyword) != lex.Keyword(s) || (got[0].Kind == isName) == lex.Keyword(s) {
			t.Errorf("Read(%q) = %v, %v", s, got, e)
		}
	}
}
