package lex_test

import (
	"math/big"
	"math/rand"
	"regexp"
	"slices"
	"strings"
	"testing"
	"unicode/utf8"

	"palisade/api"
	"palisade/lex"
)

// The chapter's words, each as what a text may begin with.
var (
	refSkip   = regexp.MustCompile(`^([ \t\n]|#[^\n]*)`)
	refName   = regexp.MustCompile(`^[a-zA-Z\x{3b1}-\x{3c9}][a-zA-Z\x{3b1}-\x{3c9}0-9]*`)
	refNumber = regexp.MustCompile(`^[0-9]+`)
	refSign   = regexp.MustCompile(`^(==|=>|->|:=|[()\[\]{}<>,;:@!=+\-*/%])`)
)

// refRead is Read by the chapter's words: what a text begins with is taken off, till nothing is left.
func refRead(s string) ([]lex.Tok, int, api.Errno) {
	if len(s) > api.MaxSource {
		return nil, 0, api.ErrLong
	}
	var found []lex.Tok
	for rest := s; rest != ""; {
		if skip := refSkip.FindString(rest); skip != "" {
			rest = rest[len(skip):]
			continue
		}
		at := len(s) - len(rest)
		kind, text := refWord(rest)
		if kind == 0 {
			return nil, at, api.ErrLex
		}
		if len(found) == api.MaxTokens {
			return nil, at, api.ErrLimit
		}
		found = append(found, word(kind, text, at))
		rest = rest[len(text):]
	}
	return found, 0, api.OK
}

// refWord is the kind and the text of the word that rest begins with; the kind 0, if there is none.
func refWord(rest string) (int, string) {
	if text := refName.FindString(rest); slices.Contains(keywords(), text) {
		return isKeyword, text
	} else if text != "" && utf8.RuneCountInString(text) <= 16 {
		return isName, text
	}
	if text := refNumber.FindString(rest); text != "" {
		greatest, _ := new(big.Int).SetString("9223372036854775807", 10)
		n, _ := new(big.Int).SetString(text, 10)
		if n.String() == text && n.Cmp(greatest) <= 0 {
			return isNumber, text
		}
		return 0, ""
	}
	if text := refSign.FindString(rest); text != "" {
		return isSign, text
	}
	return 0, ""
}

func agrees(t *testing.T, s string) {
	t.Helper()
	got, at, e := lex.Read(s)
	want, place, wantErr := refRead(s)
	if e != wantErr || at != place || !slices.Equal(got, want) {
		t.Fatalf("Read(%.200q) = %v, %d, %v; want %v, %d, %v", s, got, at, e, want, place, wantErr)
	}
}

// TestReadRows (P5.1): all rows of four pieces: letters, digits, what begins signs of two bytes and ends them, blanks, remarks, and what is wrong.
func TestReadRows(t *testing.T) {
	pieces := []string{"", "a", "let", "α", "0", "7", "=", ">", "-", ":", "(", "#", "\n", " ", "é", "\xce", "\xb1", "$"}
	for _, a := range pieces {
		for _, b := range pieces {
			for _, c := range pieces {
				for _, d := range pieces {
					agrees(t, a+b+c+d)
				}
			}
		}
	}
}

// TestReadEveryRune (P5.1): each rune by itself, behind a name, behind a number, behind a sign, and in a remark.
func TestReadEveryRune(t *testing.T) {
	for r := rune(0); r < 0x3000; r++ {
		for _, ahead := range []string{"", "a", "7", "=", "# "} {
			agrees(t, ahead+string(r)+"b")
		}
	}
	for _, r := range []rune{0xd7ff, 0xe000, 0xfeff, 0xff11, 0xff21, 0xfffd, 0xffff, 0x1d6fc, 0x10ffff} {
		agrees(t, string(r))
		agrees(t, "a"+string(r))
	}
}

// TestReadEveryByte (P5.1): each byte, and each two bytes, whether they are runes or not.
func TestReadEveryByte(t *testing.T) {
	for a := range 256 {
		agrees(t, string([]byte{byte(a)}))
		agrees(t, string([]byte{'x', byte(a), '1'}))
		for b := range 256 {
			agrees(t, string([]byte{byte(a), byte(b)}))
		}
	}
}

// TestReadLongTexts (P5.1): rows of many words and of few faults, up to all limits and beyond.
func TestReadLongTexts(t *testing.T) {
	pieces := append(append([]string{"007", "9223372036854775808", "é", "\x80", strings.Repeat("b", 17)}, between()...), "", "", "")
	for _, w := range words() {
		pieces = append(pieces, w.Text)
	}
	draw := rand.New(rand.NewSource(5))
	for range 300 {
		var s strings.Builder
		faults := draw.Intn(3)
		for range draw.Intn(3000) {
			i := draw.Intn(len(pieces))
			if i < 5 {
				if faults == 0 {
					continue
				}
				faults--
			}
			s.WriteString(pieces[i])
			s.WriteString([]string{"", " "}[draw.Intn(2)])
		}
		agrees(t, s.String())
		agrees(t, s.String()[:min(s.Len(), api.MaxSource)])
	}
}
