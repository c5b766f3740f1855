package lex_test

import (
	"strings"
	"testing"

	"palisade/api"
)

// TestExamples (P5.1): those of the chapter.
func TestExamples(t *testing.T) {
	wants(t, "let x=1", word(isKeyword, "let", 0), word(isName, "x", 4), word(isSign, "=", 5), word(isNumber, "1", 6))
	refuses(t, "007", 0, api.ErrLex)
	wants(t, "a == b =", word(isName, "a", 0), word(isSign, "==", 2), word(isName, "b", 5), word(isSign, "=", 7))
	refuses(t, "é", 0, api.ErrLex)
}

// TestReadNothing (P5.1): texts without words.
func TestReadNothing(t *testing.T) {
	for _, s := range append(between(), "", "#", "# a remark that ends with the text", "\n#let\x80", strings.Repeat(" ", api.MaxSource), "#"+strings.Repeat("$", api.MaxSource-1)) {
		wants(t, s)
	}
}

// TestReadOneWord (P5.1): each word, with its kind, its bytes and its number.
func TestReadOneWord(t *testing.T) {
	for _, w := range words() {
		wants(t, w.Text, w)
		wants(t, w.Text+"#"+w.Text, w)
		w.At = 6
		wants(t, "# let\n"+w.Text, w)
	}
}

// TestReadNumbers (P5.1): the greatest and what is beyond, and 0 alone and ahead of others.
func TestReadNumbers(t *testing.T) {
	wants(t, "9223372036854775807", word(isNumber, "9223372036854775807", 0))
	wants(t, "0", word(isNumber, "0", 0))
	wants(t, "0 0", word(isNumber, "0", 0), word(isNumber, "0", 2))
	wants(t, "-0", word(isSign, "-", 0), word(isNumber, "0", 1))
	wants(t, "-7", word(isSign, "-", 0), word(isNumber, "7", 1))
	for _, s := range []string{
		"9223372036854775808", "9223372036854775810", "10000000000000000000", "18446744073709551615", "18446744073709551616", "18446744073709551623",
		"92233720368547758070", strings.Repeat("9", api.MaxSource-3),
		"00", "01", "000", "007", "09223372036854775807", "09223372036854775808", strings.Repeat("0", api.MaxSource-3),
	} {
		refuses(t, s, 0, api.ErrLex)
		refuses(t, "a "+s+"b", 2, api.ErrLex)
		refuses(t, "-"+s, 1, api.ErrLex)
	}
}

// TestReadNames (P5.1): runes count, not bytes, and a keyword ahead of other letters is none.
func TestReadNames(t *testing.T) {
	for _, r := range []string{"a", "Z", "α", "ω"} {
		full := strings.Repeat(r, api.MaxName)
		wants(t, full, word(isName, full, 0))
		for _, more := range []string{r, "0", "α", strings.Repeat("b", 1000)} {
			refuses(t, full+more, 0, api.ErrLex)
			refuses(t, "x y "+full+more, 4, api.ErrLex)
			refuses(t, "# α\nω"+"="+full+more, 8, api.ErrLex)
		}
		wants(t, full+"="+full, word(isName, full, 0), word(isSign, "=", len(full)), word(isName, full, len(full)+1))
	}
	for _, k := range keywords() {
		refuses(t, k+strings.Repeat("s", api.MaxName), 0, api.ErrLex)
		for _, s := range []string{k + "1", k + "x", "x" + k, k + k, k + "α", k[:1] + "q" + k[1:], strings.ToUpper(k)} {
			wants(t, s, word(isName, s, 0))
		}
	}
}

// TestReadNoBlanks (P5.1): words with no blank between them are as long as may be.
func TestReadNoBlanks(t *testing.T) {
	wants(t, "1a", word(isNumber, "1", 0), word(isName, "a", 1))
	wants(t, "0a0", word(isNumber, "0", 0), word(isName, "a0", 1))
	wants(t, "9if", word(isNumber, "9", 0), word(isKeyword, "if", 1))
	wants(t, "ifα", word(isName, "ifα", 0))
	wants(t, "a1#1", word(isName, "a1", 0))
	wants(t, "(x)=>y", word(isSign, "(", 0), word(isName, "x", 1), word(isSign, ")", 2), word(isSign, "=>", 3), word(isName, "y", 5))
	wants(t, "ω:α", word(isName, "ω", 0), word(isSign, ":", 2), word(isName, "α", 3))
}

// TestReadSigns (P5.1): those of two bytes beside those of one; a blank or a remark keeps two apart.
func TestReadSigns(t *testing.T) {
	for s, want := range map[string]string{
		"===": "== =", "====": "== ==", "==>": "== >", "=>>": "=> >", "=>=": "=> =", "=->": "= ->", "->=": "-> =", "-=>": "- =>", "-->": "- ->",
		":==": ":= =", "::=": ": :=", ":=>": ":= >", ":->": ": ->", "=:=": "= :=", ">=": "> =", ">-": "> -", ">->": "> ->", "<=": "< =", "<-": "< -", "!=": "! =",
		"= =": "= =", "= >": "= >", "- >": "- >", ": =": ": =", "=#\n=": "= =", "-#=\n>": "- >", ":\n=": ": =", "=": "=", "-": "-", ":": ":",
		"()[]{}<>,;:@!=+-*/%": "( ) [ ] { } < > , ; : @ ! = + - * / %",
	} {
		texts := strings.Fields(want)
		if got := textsOf(t, s); strings.Join(got, " ") != strings.Join(texts, " ") {
			t.Errorf("Read(%q) = %v; want %v", s, got, texts)
		}
	}
}

// TestReadRemarks (P5.1): a remark ends ahead of the next byte 10, and nothing in it is wrong.
func TestReadRemarks(t *testing.T) {
	b := word(isName, "b", 0)
	for _, remark := range []string{"#", "##", "# #", "#a", "#007", "#$é\x00\r", "#\x80", "#\xce", "#\xed\xa0\x80\xff", "#" + strings.Repeat("x", 100)} {
		b.At = len(remark) + 2
		wants(t, "a"+remark+"\nb", word(isName, "a", 0), b)
		wants(t, "a"+remark, word(isName, "a", 0))
		refuses(t, "a"+remark+"\n$", b.At, api.ErrLex)
	}
}

// TestReadNoWords (P5.1): runes that begin no word, and bytes that are no runes.
func TestReadNoWords(t *testing.T) {
	for _, wrong := range []string{
		"$", "&", "|", "^", "~", "?", ".", "'", "\"", "\\", "_", "`", "\r", "\v", "\f", "\x00", "\x7f",
		"é", "\u00a0", "\u03b0", "\u03ca", "Α", "Ω", "世", "𝛼", "\u0660", "\u2028", "\ufeff", "\ufffd",
		"\x80", "\xff", "\xce", "\xcf", "\xb1", "\xc0\xa0", "\xc1\xa1", "\xe2\x82", "\xed\xa0\x80", "\xf4\x90\x80\x80",
	} {
		refuses(t, wrong, 0, api.ErrLex)
		refuses(t, "a"+wrong, 1, api.ErrLex)
		refuses(t, "12"+wrong+"3", 2, api.ErrLex)
		refuses(t, "==="+wrong+"=", 3, api.ErrLex)
		refuses(t, "# $\n\tα "+wrong, 8, api.ErrLex)
	}
}

// TestReadTwoFaults (P5.1): the first one is told, whatever its kind.
func TestReadTwoFaults(t *testing.T) {
	faults := []string{"$", "\x80", "é", "01", "9223372036854775808", strings.Repeat("a", api.MaxName+1)}
	for _, first := range faults {
		for _, second := range faults {
			refuses(t, "x "+first+" "+second, 2, api.ErrLex)
		}
	}
}

// TestReadTooLong (P5.1): MaxSource bytes are read; of one more nothing is asked, whatever they are.
func TestReadTooLong(t *testing.T) {
	for _, piece := range []string{" ", "#", "$", "\x80", "a", "0", ";", "; ", "α"} {
		long := strings.Repeat(piece, api.MaxSource)
		for _, size := range []int{api.MaxSource + 1, api.MaxSource + 2, len(long) + 5000} {
			refuses(t, (long + long)[:size], 0, api.ErrLong)
		}
		agrees(t, long[:api.MaxSource])
	}
	end := word(isName, "a", api.MaxSource-1)
	wants(t, strings.Repeat(" ", api.MaxSource-1)+"a", end)
	refuses(t, strings.Repeat(" ", api.MaxSource-1)+"$", api.MaxSource-1, api.ErrLex)
	refuses(t, strings.Repeat(" ", api.MaxSource)+"$", 0, api.ErrLong)
}

// TestReadManyWords (P5.1): MaxTokens words are read; the one behind them is told, but as a wrong one, if it is one.
func TestReadManyWords(t *testing.T) {
	for _, piece := range []string{";", "; ", "a ", "7 ", "=>", "if\n", "α#\n"} {
		full := strings.Repeat(piece, api.MaxTokens)
		for _, behind := range []string{"", " ", "\n\n", "#", "# 1 2 3", "#\x80\n"} {
			if got := textsOf(t, full+behind); len(got) != api.MaxTokens {
				t.Errorf("%d words of %q", len(got), piece)
			}
		}
		for _, w := range []string{"+", "b", "0", "let", "==", "b $", "+é", "b 007", "+ \x80", "0;01"} {
			refuses(t, full+w, len(full), api.ErrLimit)
			refuses(t, full+" # $\n"+w, len(full)+5, api.ErrLimit)
		}
		for _, wrong := range []string{"$", "é", "\x80", "00", "9223372036854775808", strings.Repeat("b", api.MaxName+1), "$ b"} {
			refuses(t, full+"\t"+wrong, len(full)+1, api.ErrLex)
			refuses(t, full[:len(full)-len(piece)]+" "+wrong+" b b b", len(full)-len(piece)+1, api.ErrLex)
			refuses(t, full+"+ "+wrong, len(full), api.ErrLimit)
		}
	}
}
