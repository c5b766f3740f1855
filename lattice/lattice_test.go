package lattice_test

import (
	"math"
	"slices"
	"strings"
	"testing"

	"palisade/api"
	"palisade/lattice"
)

// numbers are labels and such as are none, the ends of int among them.
var numbers = []int{0, 1, 2, 3, 7, 8, 9, 63, 64, 65, 1 << 40, math.MaxInt, api.None, -2, -64, math.MinInt}

// TestName (P1.1).
func TestName(t *testing.T) {
	for _, x := range []struct {
		s    string
		want bool
	}{
		{"a", true}, {"z", true}, {"A", true}, {"Z", true}, {"low", true}, {"aZ09", true}, {"a0", true}, {"a9", true},
		{"", false}, {"0", false}, {"9a", false}, {" a", false}, {"a ", false}, {"a_b", false}, {"a-b", false}, {"a\x00", false}, {"a\n", false},
		// what lies just outside of the letters and digits
		{"`", false}, {"{", false}, {"@", false}, {"[", false}, {"a/", false}, {"a:", false}, {"a`", false}, {"a{", false}, {"a@", false}, {"a[", false},
		// alpha, the last sigma, omega, and what lies beside; the great letters and those with signs aren't among them
		{"\u03b1", true}, {"\u03c2", true}, {"\u03c9", true}, {"a\u03b1\u03c9", true}, {"\u03b1" + "1", true},
		{"\u03b0", false}, {"\u03ca", false}, {"a\u03b0", false}, {"a\u03ca", false}, {"\u0391", false}, {"\u03a9", false},
		{"\u00e4", false}, {"a\u0660", false}, {"\u4e16", false}, {"\U0001d6fc", false},
		// bytes that aren't right UTF-8: cut, over-long, a surrogate, too great, alone; and the sign that stands for such
		{"\xff", false}, {"a\xff", false}, {"a\xce", false}, {"\xceb", false}, {"\xc1\xa1", false}, {"a\xed\xa0\x80", false}, {"a\xf4\x90\x80\x80", false}, {"\xb1", false}, {"a\ufffd", false}, {"\ufffd", false},
	} {
		if got := lattice.Name(x.s); got != x.want {
			t.Errorf("Name(%q) = %v", x.s, got)
		}
	}
}

// TestNameLength (P1.1): runes count, not bytes.
func TestNameLength(t *testing.T) {
	for _, r := range []string{"a", "Z", "\u03b1", "\u03c9"} {
		for _, x := range []struct {
			n    int
			want bool
		}{{0, false}, {1, true}, {api.MaxName - 1, true}, {api.MaxName, true}, {api.MaxName + 1, false}, {1 << 20, false}} {
			if got := lattice.Name(strings.Repeat(r, x.n)); got != x.want {
				t.Errorf("Name of %d times %q = %v", x.n, r, got)
			}
		}
	}
	if full := "a" + strings.Repeat("9", api.MaxName-1); !lattice.Name(full) || lattice.Name(full+"9") || lattice.Name(full+"\xff") {
		t.Error("digits at the end")
	}
}

// above is an order of rows of 0 and 1.
func above(rows ...string) [][]bool {
	order := make([][]bool, len(rows))
	for a, row := range rows {
		order[a] = make([]bool, len(row))
		for b, r := range row {
			order[a][b] = r == '1'
		}
	}
	return order
}

// unformed are lattices that break one clause each.
func unformed() map[string]api.Lattice {
	nine := above("111111111", "011111111", "001111111", "000111111", "000011111", "000001111", "000000111", "000000011", "000000001")
	return map[string]api.Lattice{
		"nothing":            {},
		"empty lists":        {Names: []string{}, Order: [][]bool{}},
		"an order, no names": {Order: above("1")},
		"a row, no names":    {Order: [][]bool{nil}},
		"names, no order":    {Names: []string{"a"}},
		"a nil row":          {Names: []string{"a"}, Order: [][]bool{nil}},
		"too many names":     {Names: letters(9), Order: nine},
		"no name":            {Names: []string{"a", ""}, Order: above("11", "01")},
		"a digit first":      {Names: []string{"1"}, Order: above("1")},
		"not UTF-8":          {Names: []string{"a", "b\xce"}, Order: above("11", "01")},
		"a long name":        {Names: []string{strings.Repeat("\u03c9", api.MaxName+1)}, Order: above("1")},
		"two alike":          {Names: []string{"a", "a"}, Order: above("11", "01")},
		"two alike apart":    {Names: []string{"a", "b", "a"}, Order: above("111", "011", "001")},
		"a row less":         {Names: letters(2), Order: above("11")},
		"a row more":         {Names: letters(2), Order: above("11", "01", "11")},
		"a short row":        {Names: letters(2), Order: above("11", "0")},
		"a short first row":  {Names: letters(2), Order: above("1", "01")},
		"a long row":         {Names: letters(2), Order: above("11", "011")},
		"a place that is no": {Names: letters(2), Order: above("11", "010")},
		"all rows so":        {Names: letters(2), Order: above("110", "010")},
		"all rows long":      {Names: letters(2), Order: above("111", "011")},
		"a no left out":      {Names: letters(2), Order: above("1", "11")},
		"more of each":       {Names: letters(2), Order: above("111", "011", "001")},
		"a ninth row":        {Names: letters(8), Order: above("11111111", "01111111", "00111111", "00011111", "00001111", "00000111", "00000011", "00000001", "11111111")},
		"a nil row behind":   {Names: letters(2), Order: [][]bool{{true, true}, nil}},
		"one not below it":   {Names: letters(1), Order: above("0")},
		"last not below it":  {Names: letters(2), Order: above("11", "00")},
		"two one another":    {Names: letters(2), Order: above("11", "11")},
		"a gap in a chain":   {Names: letters(3), Order: above("110", "011", "001")},
		"no join":            {Names: letters(3), Order: above("111", "010", "001")},
		"no meet":            {Names: letters(3), Order: above("101", "011", "001")},
		"neither":            {Names: letters(2), Order: above("10", "01")},
		"no least above":     {Names: letters(6), Order: above("111111", "010111", "001111", "000101", "000011", "000001")},
	}
}

// TestUnformed (P1.1): false, None, none of all that isn't formed.
func TestUnformed(t *testing.T) {
	for name, l := range unformed() {
		t.Run(name, func(t *testing.T) { answersNothing(t, l) })
	}
}

// TestFormed (P1.1): what stands just on the good side of the clauses.
func TestFormed(t *testing.T) {
	for name, l := range map[string]api.Lattice{
		"one":           {Names: []string{"a"}, Order: above("1")},
		"two":           {Names: []string{"low", "high"}, Order: above("11", "01")},
		"top first":     {Names: []string{"high", "low"}, Order: above("10", "11")},
		"other letters": {Names: []string{"a", "A", "\u03b1", "a0"}, Order: above("1111", "0111", "0011", "0001")},
		"long names":    {Names: []string{strings.Repeat("a", api.MaxName), strings.Repeat("\u03c9", api.MaxName)}, Order: above("11", "01")},
		"five sides":    {Names: letters(5), Order: above("11111", "01101", "00101", "00011", "00001")},
	} {
		if !lattice.Formed(l) {
			t.Errorf("%s isn't formed", name)
			continue
		}
		sameAsReference(t, l)
		boundsFollow(t, l)
	}
}

// TestNumbersThatAreNoLabels (P1.1): only None in Both is taken.
func TestNumbersThatAreNoLabels(t *testing.T) {
	l := diamond(t)
	for _, a := range numbers {
		if a >= 0 && a < len(l.Names) {
			continue
		}
		if len(lattice.Below(l, a)) != 0 {
			t.Errorf("Below %d", a)
		}
		for _, b := range numbers {
			if lattice.Leq(l, a, b) || lattice.Leq(l, b, a) || lattice.Join(l, a, b) != api.None || lattice.Join(l, b, a) != api.None || lattice.Meet(l, a, b) != api.None || lattice.Meet(l, b, a) != api.None {
				t.Errorf("%d and %d have an answer", a, b)
			}
			want := api.None
			if a == api.None && b >= 0 && b < len(l.Names) {
				want = b
			}
			if lattice.Both(l, a, b) != want || lattice.Both(l, b, a) != want {
				t.Errorf("Both of %d and %d", a, b)
			}
		}
	}
}

// TestDiamond (P1.1): answers that are written out.
func TestDiamond(t *testing.T) {
	l := diamond(t)
	if lattice.Bottom(l) != 0 || lattice.Top(l) != 3 {
		t.Error("ends")
	}
	joins := [4][4]int{{0, 1, 2, 3}, {1, 1, 3, 3}, {2, 3, 2, 3}, {3, 3, 3, 3}}
	meets := [4][4]int{{0, 0, 0, 0}, {0, 1, 0, 1}, {0, 0, 2, 2}, {0, 1, 2, 3}}
	leq := above("1111", "0101", "0011", "0001")
	for a := range 4 {
		for b := range 4 {
			if lattice.Join(l, a, b) != joins[a][b] || lattice.Both(l, a, b) != joins[a][b] || lattice.Meet(l, a, b) != meets[a][b] || lattice.Leq(l, a, b) != leq[a][b] {
				t.Error(a, b)
			}
		}
		if lattice.Both(l, a, api.None) != a || lattice.Both(l, api.None, a) != a {
			t.Error("None and", a)
		}
	}
	if lattice.Both(l, api.None, api.None) != api.None {
		t.Error("None and None")
	}
	for a, want := range [][]int{{0}, {0, 1}, {0, 2}, {0, 1, 2, 3}} {
		if got := lattice.Below(l, a); !slices.Equal(got, want) {
			t.Errorf("Below %d = %v", a, got)
		}
	}
}

// TestEndsAnywhere (P1.1): the bottom needn't be the first, nor the top the last; what is below rises all the same.
func TestEndsAnywhere(t *testing.T) {
	l, e := lattice.Make([]string{"mid", "top", "low"}, [][2]int{{2, 0}, {0, 1}})
	if e != api.OK || lattice.Bottom(l) != 2 || lattice.Top(l) != 1 || lattice.Join(l, 0, 2) != 0 || lattice.Meet(l, 0, 1) != 0 {
		t.Fatal(l, e)
	}
	if got := lattice.Below(l, 1); !slices.Equal(got, []int{0, 1, 2}) {
		t.Error(got)
	}
	if got := lattice.Below(l, 0); !slices.Equal(got, []int{0, 2}) {
		t.Error(got)
	}
}

// TestFind (P1.1): names are found byte by byte.
func TestFind(t *testing.T) {
	l, e := lattice.Make([]string{"low", "\u03b1", "Low"}, [][2]int{{0, 1}, {1, 2}})
	if e != api.OK {
		t.Fatal(e)
	}
	for name, want := range map[string]int{"low": 0, "\u03b1": 1, "Low": 2, "LOW": api.None, "lo": api.None, "lowe": api.None, "": api.None, "\xce": api.None, "\u03b2": api.None} {
		if got := lattice.Find(l, name); got != want {
			t.Errorf("Find %q = %d", name, got)
		}
	}
}

func diamond(t *testing.T) api.Lattice {
	t.Helper()
	l, e := lattice.Make([]string{"low", "a", "b", "top"}, [][2]int{{0, 1}, {0, 2}, {1, 3}, {2, 3}})
	if e != api.OK {
		t.Fatal(e)
	}
	return l
}
