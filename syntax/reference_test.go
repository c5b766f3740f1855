package syntax_test

import (
	"math/rand"
	"slices"
	"strings"
	"testing"

	"palisade/api"
	"palisade/lattice"
	"palisade/lex"
	"palisade/syntax"
)

// refFault is the error and the place of a text, by the chapter's words, for Bodies that are small. What is known of its first words' charts may be handed in.
func refFault(g grammar, s string, known ...[]state) (int, api.Errno) {
	words, place, e := lex.Read(s)
	if e != api.OK {
		return place, e
	}
	charts := g.charts(words, known...)
	var l api.Lattice
	for i, w := range words {
		after := charts[i+1]
		isLabel := g.waitsFor(charts[i], "label")
		if len(after) == 0 || isLabel && w.Kind == 1 && !slices.Contains(l.Names, w.Text) {
			return w.At, api.ErrSyntax
		}
		if w.Text == "}" {
			if l = refLattice(words[2:i]); l.Names == nil {
				return words[0].At, api.ErrLattice
			}
		}
		if begun, ends := g.ends(after, "type"); ends && !refTypeFits(words[begun:i+1]) {
			return words[begun].At, api.ErrLimit
		}
	}
	if _, ends := g.ends(charts[len(words)], "program"); !ends {
		return len(s), api.ErrSyntax
	}
	return 0, api.OK
}

// refLattice is that of the items of these words; the zero lattice, if they are none.
func refLattice(words []lex.Tok) api.Lattice {
	var names []string
	var pairs [][2]int
	for _, w := range words {
		if w.Kind == 1 && !slices.Contains(names, w.Text) {
			names = append(names, w.Text)
		}
	}
	for i, w := range words {
		if w.Text == "<" {
			pairs = append(pairs, [2]int{slices.Index(names, words[i-1].Text), slices.Index(names, words[i+1].Text)})
		}
	}
	l, _ := lattice.Make(names, pairs)
	return l
}

// refTypeFits tells whether the type of these words is within the limits: each node has one @, and each one within another stands in one more bracket.
func refTypeFits(words []lex.Tok) bool {
	nodes, open, deep := 0, 0, 0
	for _, w := range words {
		switch w.Text {
		case "@":
			nodes++
		case "(", "[":
			open++
		case ")", "]":
			open--
		}
		deep = max(deep, open+1)
	}
	return nodes <= api.MaxNodes && deep <= api.MaxDeep
}

// agrees holds what Parse answers against the reference. A Body that is too deep is left to other tests.
func agrees(t *testing.T, g grammar, s string, known ...[]state) api.Errno {
	t.Helper()
	p, place, e := syntax.Parse(s)
	want, wantErr := refFault(g, s, known...)
	if e == api.ErrLimit && wantErr == api.OK && strings.Count(s, " ") > 2*api.MaxNest {
		return e
	}
	if e != wantErr || place != want || (e == api.OK) != syntax.Formed(p) {
		t.Fatalf("Parse(%q) = %d, %v; want %d, %v", s, place, e, want, wantErr)
	}
	return e
}

// someWords are such as the grammar has, and a few that it hasn't.
func someWords() []string {
	return append(append(lex.Words(), strings.Fields("== => -> := ( ) [ ] { } < > , ; : @ ! = + - * / %")...), "a", "b", "x", "y", "0", "7")
}

// changed is words with one of them left out, put in, put for another, or two turned.
func changed(draw *rand.Rand, words []string) []string {
	some := someWords()
	words = slices.Clone(words)
	i := draw.Intn(len(words))
	switch draw.Intn(5) {
	case 0:
		return slices.Delete(words, i, i+1)
	case 1:
		return slices.Insert(words, i, some[draw.Intn(len(some))])
	case 2:
		words[i] = some[draw.Intn(len(some))]
	case 3:
		j := draw.Intn(len(words))
		words[i], words[j] = words[j], words[i]
	case 4:
		words = words[:i]
	}
	return words
}

// lawful has the words of a program's lattice put for one that is a lattice, so that what is behind it is read.
func lawful(draw *rand.Rand, words []string) []string {
	items := []string{"a", "a < b", "b , a < b", "a < b , x < a", "a , b , a < b , x < b , a < x"}[draw.Intn(5)]
	behind := slices.Index(words, "}")
	return append(strings.Fields("lattice { "+items), words[behind:]...)
}

// TestDrawnPrograms (P6.1): programs drawn from the chapter's grammar, and such with a word or two changed, are read or refused as the reference says.
func TestDrawnPrograms(t *testing.T) {
	g := chapterGrammar()
	draw := rand.New(rand.NewSource(61))
	told := map[api.Errno]int{}
	for n := range 2000 {
		words := g.drawn(draw, "program", nil, 30+n%60)
		if n%10 > 0 {
			words = lawful(draw, words)
		}
		if len(words) > 250 {
			continue
		}
		told[agrees(t, g, strings.Join(words, " "))]++
		for range 3 {
			words = changed(draw, words)
			if len(words) == 0 {
				break
			}
			told[agrees(t, g, strings.Join(words, " "))]++
		}
	}
	if told[api.OK] < 300 || told[api.ErrSyntax] < 300 || told[api.ErrLattice] < 100 || told[api.ErrLimit] < 20 {
		t.Error(told)
	}
}

// TestEachWordBehind (P6.1): each word, behind each beginning of a program that has all forms.
func TestEachWordBehind(t *testing.T) {
	g := chapterGrammar()
	for _, body := range []string{
		"let v = fun f(y: (int@a, [bool@b -> ref(int@a)@a ! a, none]@b)@b): int@a ! b, a => try f(y); 1 with e => raise[int@b] e end in if not !v < 2 then (v, fst v) else out[b] v",
		"x + 1 * 2 == new[int@a] snd x := (x)(y)(1, 2) ; let v = true in false",
		"((x < 1), 2 - 3 / 4 % 5) ; if x then let v = 1 in 2 ; 3 else fun f(y: int@b): int@b ! a, b => let v = 1 in f ; 2",
	} {
		words := textsIn(t, "lattice { a, a < b, b } main(x: int@a): int@b ! none = "+body)
		for n := range len(words) + 1 {
			ahead := strings.Join(words[:n], " ")
			read, _, _ := lex.Read(ahead)
			known := g.charts(read)
			for _, word := range someWords() {
				agrees(t, g, ahead+" "+word, known...)
			}
		}
	}
}
