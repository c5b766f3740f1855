package syntax_test

import (
	"math/rand"
	"slices"
	"strings"
	"testing"

	"palisade/api"
	"palisade/lex"
	"palisade/syntax"
)

// TestThereAndBack (P6.4): drawn programs, printed, are read as they were, places apart, and are formed; what is printed again is the same text.
func TestThereAndBack(t *testing.T) {
	draw := rand.New(rand.NewSource(64))
	read := 0
	for n := range 5000 {
		p := drawnProgram(draw, 1+n%7)
		s, e := syntax.Print(p)
		if e != api.OK {
			t.Fatal(e)
		}
		q, at, e := syntax.Parse(s)
		if _, place, fault := lex.Read(s); fault != api.OK {
			if e != fault || at != place {
				t.Fatal(s, e)
			}
			continue
		}
		read++
		again, _ := syntax.Print(q)
		if e != api.OK || at != 0 || !sameProgram(p, q, false) || !syntax.Same(p.Body, q.Body) || !syntax.Formed(q) || again != s {
			t.Fatalf("%s: %d, %v", s, at, e)
		}
	}
	if read < 3500 {
		t.Error(read)
	}
}

// TestBackAtTheLimits (P6.4): programs as deep and of as many nodes as may be, where their texts are short enough, and where they aren't.
func TestBackAtTheLimits(t *testing.T) {
	for _, body := range append(each(name("a"), nots(29), nots(29)), nots(30), balanced(255)) {
		p := program(body)
		s, _ := syntax.Print(p)
		if q, _, e := syntax.Parse(s); e != api.OK || !sameProgram(p, q, false) {
			t.Error(s, e)
		}
	}
	s, e := syntax.Print(program(balanced(1999)))
	if _, _, read := syntax.Parse(s); e != api.OK || read != api.ErrLong && read != api.ErrLimit {
		t.Error(e, read)
	}
}

// TestWhatIsReadIsFormed (P6.4): also of texts that were drawn from the grammar.
func TestWhatIsReadIsFormed(t *testing.T) {
	g := chapterGrammar()
	draw := rand.New(rand.NewSource(46))
	read := 0
	for range 6000 {
		words := lawful(draw, g.drawn(draw, "program", nil, 60))
		for i, w := range words {
			if i > 0 && (words[i-1] == "@" || words[i-1] == "!") && slices.Contains([]string{"b", "x"}, w) {
				words[i] = "a"
			}
		}
		s := strings.Join(words, " ")
		p, _, e := syntax.Parse(s)
		if e != api.OK {
			continue
		}
		read++
		if text, e := syntax.Print(p); !syntax.Formed(p) || e != api.OK {
			t.Fatal(s, text, e)
		}
	}
	if read < 1000 {
		t.Error(read)
	}
}
