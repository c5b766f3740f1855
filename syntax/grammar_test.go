package syntax_test

import (
	"math/rand"
	"slices"
	"strconv"
	"strings"
	"testing"

	"palisade/lex"
)

// grammarText is the chapter's, as it stands there.
const grammarText = `
program = lattice "{" item { "," item } "}" main "(" name ":" type ")" ":" type "!" exc "=" seq
item    = name [ "<" name ]
type    = ( int | bool | "(" type "," type ")" | "[" type "->" type "!" label "," exc "]" | ref "(" type ")" ) "@" label
exc     = none | label
label   = name
seq     = expr [ ";" seq ]
expr    = let name "=" expr in seq
        | if expr then expr else expr
        | fun name "(" name ":" type ")" ":" type "!" label "," exc "=>" expr
        | compare [ ":=" expr ]
compare = sum [ ( "<" | "==" ) sum ]
sum     = product { ( "+" | "-" ) product }
product = unary { ( "*" | "/" | "%" ) unary }
unary   = ( not | "!" | fst | snd | out "[" label "]" | new "[" type "]" | raise "[" type "]" ) unary | call
call    = atom { "(" seq ")" }
atom    = number | true | false | name | "(" seq [ "," seq ] ")" | try seq with name "=>" seq end
`

// grammar is, for each thing that has a rule, the rows of which it may be one. A member of a row is such a thing, or a word: a text, or name or number.
type grammar map[string][][]string

// chapterGrammar is read off the chapter's text.
func chapterGrammar() grammar {
	g := grammar{}
	text := strings.ReplaceAll(grammarText, "\n        |", " |")
	for _, line := range strings.Split(strings.TrimSpace(text), "\n") {
		rule, is, _ := strings.Cut(line, "=")
		rule = strings.TrimSpace(rule)
		rows, rest := g.choices(rule, strings.Fields(is))
		if len(rest) > 0 {
			panic(line)
		}
		g[rule] = rows
	}
	return g
}

// choices are the rows that are parted by |, up to a closing bracket, and what stands from there on.
func (g grammar) choices(rule string, words []string) ([][]string, []string) {
	rows := [][]string{nil}
	for len(words) > 0 {
		word := words[0]
		last := &rows[len(rows)-1]
		switch word {
		case ")", "]", "}":
			return rows, words
		case "|":
			rows = append(rows, nil)
		case "(", "[", "{":
			inner := rule + "." + strconv.Itoa(len(g))
			g[inner] = nil
			within, rest := g.choices(rule, words[1:])
			if word == "{" {
				for i := range within {
					within[i] = append(within[i], inner)
				}
			}
			if word != "(" {
				within = append(within, []string{})
			}
			g[inner] = within
			*last = append(*last, inner)
			words = rest
		default:
			*last = append(*last, strings.Trim(word, `"`))
		}
		words = words[1:]
	}
	return rows, nil
}

// state is a row of a rule that was begun at a word, and gone along so far.
type state struct {
	rule  string
	row   int
	done  int
	begun int
}

// charts are, ahead of each word and behind the last one, all states in which what stands ahead may be; the last of them has none, if no program goes on with the word ahead of it. Those that are known already, of the words from the first one on, are taken as they are.
func (g grammar) charts(words []lex.Tok, known ...[]state) [][]state {
	all := slices.Clone(known)
	if len(all) == 0 {
		all = append(all, g.closed(nil, 0, []state{{rule: "program"}}))
	}
	for i := len(all) - 1; i < len(words); i++ {
		var shifted []state
		for _, s := range all[i] {
			if member, ok := g.next(s); ok && g[member] == nil && fitsWord(member, words[i]) {
				s.done++
				shifted = append(shifted, s)
			}
		}
		all = append(all, g.closed(all, i+1, shifted))
		if len(shifted) == 0 {
			break
		}
	}
	return all
}

// next is the member that a state waits for.
func (g grammar) next(s state) (string, bool) {
	row := g[s.rule][s.row]
	if s.done == len(row) {
		return "", false
	}
	return row[s.done], true
}

func fitsWord(member string, w lex.Tok) bool {
	switch member {
	case "name":
		return w.Kind == 1
	case "number":
		return w.Kind == 3
	}
	return w.Kind != 1 && w.Kind != 3 && w.Text == member
}

// closed is those states, and all that they begin or end.
func (g grammar) closed(ahead [][]state, here int, states []state) []state {
	met := map[state]bool{}
	var all []state
	add := func(s state) {
		if !met[s] {
			met[s] = true
			all = append(all, s)
		}
	}
	for _, s := range states {
		add(s)
	}
	for i := 0; i < len(all); i++ {
		s := all[i]
		member, waits := g.next(s)
		if waits {
			for row := range g[member] {
				add(state{member, row, 0, here})
			}
			for _, e := range all { // Those that are empty may have ended already.
				if _, more := g.next(e); !more && e.rule == member && e.begun == here {
					add(state{s.rule, s.row, s.done + 1, s.begun})
				}
			}
			continue
		}
		from := all
		if s.begun < here {
			from = ahead[s.begun]
		}
		for _, w := range from {
			if member, ok := g.next(w); ok && member == s.rule {
				add(state{w.rule, w.row, w.done + 1, w.begun})
			}
		}
	}
	return all
}

// ends tells whether the rule may have ended there, and where it was begun.
func (g grammar) ends(chart []state, rule string) (int, bool) {
	for _, s := range chart {
		if _, more := g.next(s); !more && s.rule == rule {
			return s.begun, true
		}
	}
	return 0, false
}

// waitsFor tells whether the rule may begin there.
func (g grammar) waitsFor(chart []state, rule string) bool {
	return slices.ContainsFunc(chart, func(s state) bool {
		member, ok := g.next(s)
		return ok && member == rule
	})
}

// drawn is texts of words that the rule may be, drawn row by row; once there are enough of them the shortest rows are taken.
func (g grammar) drawn(draw *rand.Rand, rule string, words []string, enough int) []string {
	rows := g[rule]
	if rows == nil {
		return append(words, drawnWord(draw, rule))
	}
	row := rows[draw.Intn(len(rows))]
	if len(words) >= enough {
		row = rows[soonest(rule, rows)]
	}
	for _, member := range row {
		words = g.drawn(draw, member, words, enough)
	}
	return words
}

// soonest is the number of that row of a rule which comes soonest to an end: the first one where the chapter has the short ones ahead, else the last one.
func soonest(rule string, rows [][]string) int {
	thing, _, _ := strings.Cut(rule, ".")
	if thing == "type" || thing == "exc" || rule == "atom" || thing == "unary" && rule != thing {
		return 0
	}
	return len(rows) - 1
}

func drawnWord(draw *rand.Rand, member string) string {
	switch member {
	case "name":
		return []string{"a", "b", "b", "a", "x"}[draw.Intn(5)]
	case "number":
		return strconv.Itoa(draw.Intn(12))
	}
	return member
}

// TestGrammar: the reference reads what is drawn from it, and refuses a word that isn't there.
func TestGrammar(t *testing.T) {
	g := chapterGrammar()
	draw := rand.New(rand.NewSource(6))
	for range 200 {
		words, _, _ := lex.Read(strings.Join(g.drawn(draw, "program", nil, 40), " "))
		charts := g.charts(words)
		if _, ends := g.ends(charts[len(charts)-1], "program"); !ends || len(charts) != len(words)+1 {
			t.Fatal(words)
		}
		words[len(words)/2].Text = "?"
		words[len(words)/2].Kind = 4
		if charts := g.charts(words); len(charts) != len(words)/2+2 || len(charts[len(charts)-1]) != 0 {
			t.Fatal(words, len(charts))
		}
	}
}
