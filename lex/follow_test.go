package lex_test

import (
	"math/rand"
	"slices"
	"strings"
	"testing"

	"palisade/api"
	"palisade/lex"
)

// textsOf are the texts of the words that are read.
func textsOf(t *testing.T, s string) []string {
	t.Helper()
	got, at, e := lex.Read(s)
	if e != api.OK || at != 0 {
		t.Fatalf("Read(%.60q): %d, %v", s, at, e)
	}
	var texts []string
	for _, w := range got {
		texts = append(texts, w.Text)
	}
	return texts
}

// placed are the words, written one behind the other, with what stands ahead of each and behind all; and that text.
func placed(all []lex.Tok, gap func() string) (string, []lex.Tok) {
	text := gap()
	moved := slices.Clone(all)
	for i := range moved {
		moved[i].At = len(text)
		text += moved[i].Text + gap()
	}
	return text, moved
}

// TestAnyTwo (P5.3): any two words, with each of what may stand between them.
func TestAnyTwo(t *testing.T) {
	for _, first := range words() {
		for _, second := range words() {
			for _, gap := range between() {
				text, want := placed([]lex.Tok{first, second}, func() string { return gap })
				wants(t, text, want...)
				second.At = len(first.Text) + len(gap)
				wants(t, first.Text+gap+second.Text, first, second)
			}
		}
	}
}

// TestWordsComeBack (P5.3): what was read, written with a blank between, is read as the same words; and so with other blanks and remarks.
func TestWordsComeBack(t *testing.T) {
	draw := rand.New(rand.NewSource(53))
	all := words()
	for size := range 200 {
		row := make([]lex.Tok, size)
		for i := range row {
			row[i] = all[draw.Intn(len(all))]
		}
		text, want := placed(row, func() string { return " " })
		wants(t, text, want...)
		wants(t, strings.Join(textsOf(t, text), " "), placedBack(want)...)
		text, want = placed(row, func() string { return between()[draw.Intn(4)] })
		wants(t, text, want...)
		text, want = placed(row[:min(size, 50)], func() string { return between()[draw.Intn(len(between()))] })
		wants(t, text, want...)
	}
}

// placedBack are the words one place further ahead, where no blank stands ahead of the first.
func placedBack(all []lex.Tok) []lex.Tok {
	moved := slices.Clone(all)
	for i := range moved {
		moved[i].At--
	}
	return moved
}

// TestPlaces (P5.1, P5.3): at each word's place stand its bytes, and between the words stand only blanks and remarks.
func TestPlaces(t *testing.T) {
	draw := rand.New(rand.NewSource(1))
	pieces := []string{"a", "α", "1", "0", "let", "=", ">", ":", "-", " ", "#\n", "\n", "# é\n", "("}
	for range 3000 {
		s := ""
		for range draw.Intn(20) {
			s += pieces[draw.Intn(len(pieces))]
		}
		got, _, e := lex.Read(s)
		if e != api.OK {
			continue
		}
		behind := 0
		for _, w := range got {
			if w.At < behind || !strings.HasPrefix(s[w.At:], w.Text) || w.Text == "" || len(textsOf(t, s[behind:w.At])) != 0 {
				t.Fatalf("Read(%q): %v behind %d", s, w, behind)
			}
			behind = w.At + len(w.Text)
		}
		if len(textsOf(t, s[behind:])) != 0 {
			t.Fatalf("Read(%q): a word is missing behind %d", s, behind)
		}
	}
}
