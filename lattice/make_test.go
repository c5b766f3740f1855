package lattice_test

import (
	"slices"
	"strings"
	"testing"

	"palisade/api"
	"palisade/lattice"
)

func repeat(n int, pair [2]int) [][2]int {
	return slices.Repeat([][2]int{pair}, n)
}

// TestMakeErrors (P1.2): each error, at its edge, and which one is told where several apply. Beside one the lattice is zero.
func TestMakeErrors(t *testing.T) {
	good, chain := letters(2), [2]int{0, 1}
	for name, x := range map[string]struct {
		names []string
		pairs [][2]int
		want  api.Errno
	}{
		"nine names":              {letters(9), nil, api.ErrLong},
		"nine that are no names":  {make([]string, 9), nil, api.ErrLong},
		"nine, and out of range":  {letters(9), [][2]int{{9, 0}}, api.ErrLong},
		"65 pairs":                {good, repeat(65, chain), api.ErrLong},
		"65 pairs, out of range":  {good, repeat(65, [2]int{5, 5}), api.ErrLong},
		"65 pairs, no names":      {nil, repeat(65, chain), api.ErrLong},
		"64 pairs, one beyond":    {good, append(repeat(63, chain), [2]int{1, 2}), api.ErrRange},
		"first too great":         {good, [][2]int{{2, 0}}, api.ErrRange},
		"second too great":        {good, [][2]int{{0, 2}}, api.ErrRange},
		"first None":              {good, [][2]int{{-1, 0}}, api.ErrRange},
		"second None":             {good, [][2]int{{0, -1}}, api.ErrRange},
		"a pair behind":           {good, [][2]int{{0, 1}, {1, 1 << 40}}, api.ErrRange},
		"a pair of no names":      {nil, [][2]int{{0, 0}}, api.ErrRange},
		"no names, out of range":  {[]string{"", ""}, [][2]int{{0, 2}}, api.ErrRange},
		"a ring, out of range":    {good, [][2]int{{0, 1}, {1, 0}, {0, 2}}, api.ErrRange},
		"nothing":                 {nil, nil, api.ErrLattice},
		"empty lists":             {[]string{}, [][2]int{}, api.ErrLattice},
		"no pairs":                {good, nil, api.ErrLattice},
		"only itself":             {good, [][2]int{{0, 0}, {1, 1}}, api.ErrLattice},
		"a ring":                  {good, [][2]int{{0, 1}, {1, 0}}, api.ErrLattice},
		"a ring of three":         {letters(3), [][2]int{{0, 1}, {1, 2}, {2, 0}}, api.ErrLattice},
		"two alike":               {[]string{"a", "a"}, [][2]int{{0, 1}}, api.ErrLattice},
		"no name":                 {[]string{"a", ""}, [][2]int{{0, 1}}, api.ErrLattice},
		"a long name":             {[]string{strings.Repeat("a", api.MaxName+1)}, nil, api.ErrLattice},
		"not UTF-8":               {[]string{"a\xce"}, nil, api.ErrLattice},
		"no join":                 {letters(3), [][2]int{{0, 1}, {0, 2}}, api.ErrLattice},
		"no meet":                 {letters(3), [][2]int{{0, 2}, {1, 2}}, api.ErrLattice},
		"no least above":          {letters(6), [][2]int{{0, 1}, {0, 2}, {1, 3}, {1, 4}, {2, 3}, {2, 4}, {3, 5}, {4, 5}}, api.ErrLattice},
		"eight names, no pairs":   {letters(8), nil, api.ErrLattice},
		"64 pairs, not a lattice": {letters(3), repeat(64, chain), api.ErrLattice},
	} {
		l, e := lattice.Make(x.names, x.pairs)
		if e != x.want || len(l.Names) != 0 || len(l.Order) != 0 {
			t.Errorf("%s: %v, %d, want %d", name, l, e, x.want)
		}
	}
}

// TestMake (P1.2): what is made, written out.
func TestMake(t *testing.T) {
	for name, x := range map[string]struct {
		names []string
		pairs [][2]int
		want  [][]bool
	}{
		"one":              {letters(1), nil, above("1")},
		"one below itself": {letters(1), [][2]int{{0, 0}}, above("1")},
		"two":              {[]string{"low", "high"}, [][2]int{{0, 1}}, above("11", "01")},
		"the other way":    {[]string{"high", "low"}, [][2]int{{1, 0}}, above("10", "11")},
		"64 pairs":         {letters(2), repeat(64, [2]int{0, 1}), above("11", "01")},
		"a chain":          {letters(4), [][2]int{{0, 1}, {1, 2}, {2, 3}}, above("1111", "0111", "0011", "0001")},
		"from behind":      {letters(4), [][2]int{{2, 3}, {1, 2}, {0, 1}}, above("1111", "0111", "0011", "0001")},
		"mixed":            {letters(4), [][2]int{{3, 1}, {1, 0}, {0, 2}}, above("1010", "1110", "0010", "1111")},
		"mixed otherwise":  {letters(4), [][2]int{{1, 3}, {3, 0}, {0, 2}}, above("1010", "1111", "0010", "1011")},
		"said too much":    {letters(3), [][2]int{{0, 2}, {0, 1}, {1, 2}, {0, 1}, {1, 1}}, above("111", "011", "001")},
		"a diamond":        {letters(4), [][2]int{{0, 1}, {0, 2}, {1, 3}, {2, 3}}, above("1111", "0101", "0011", "0001")},
		"eight names": {letters(8), [][2]int{{7, 6}, {6, 5}, {5, 4}, {4, 3}, {3, 2}, {2, 1}, {1, 0}},
			above("10000000", "11000000", "11100000", "11110000", "11111000", "11111100", "11111110", "11111111")},
	} {
		l, e := lattice.Make(x.names, x.pairs)
		if e != api.OK || !lattice.Same(l, api.Lattice{Names: x.names, Order: x.want}) || !lattice.Formed(l) {
			t.Errorf("%s: %v, %d", name, l, e)
		}
	}
}

// TestMakeOfAllPairs (P1.2): of every set of pairs of up to 4 names, against a search for what is come to.
func TestMakeOfAllPairs(t *testing.T) {
	for n := 1; n <= 4; n++ {
		for l := range relations(n, false) {
			got, e := lattice.Make(l.Names, pairsOf(l.Order))
			want := reached(l.Order)
			if !refFormed(want) {
				if e != api.ErrLattice || len(got.Names) != 0 || len(got.Order) != 0 {
					t.Fatalf("Make of %v = %v, %d", l, got, e)
				}
			} else if e != api.OK || !lattice.Same(got, api.Lattice{Names: l.Names, Order: want}) {
				t.Fatalf("Make of %v = %v, %d, want %v", l, got, e, want)
			}
		}
	}
}

func pairsOf(order [][]bool) [][2]int {
	var pairs [][2]int
	for a, row := range order {
		for b, is := range row {
			if is && a != b {
				pairs = append(pairs, [2]int{a, b})
			}
		}
	}
	return pairs
}

// reached is, for each label, which ones a walk along the order comes to.
func reached(order [][]bool) [][]bool {
	found := make([][]bool, len(order))
	for a := range order {
		found[a] = make([]bool, len(order))
		var walk func(b int)
		walk = func(b int) {
			if found[a][b] {
				return
			}
			found[a][b] = true
			for c, is := range order[b] {
				if is {
					walk(c)
				}
			}
		}
		walk(a)
	}
	return found
}

// TestSame (P1.3).
func TestSame(t *testing.T) {
	two := func() api.Lattice { return api.Lattice{Names: letters(2), Order: above("11", "01")} }
	for name, x := range map[string]struct {
		a, b api.Lattice
		want bool
	}{
		"alike":               {two(), two(), true},
		"nil and empty":       {api.Lattice{}, api.Lattice{Names: []string{}, Order: [][]bool{}}, true},
		"nil and empty rows":  {api.Lattice{Order: [][]bool{nil, {}}}, api.Lattice{Order: [][]bool{{}, nil}}, true},
		"no rows and one":     {api.Lattice{}, api.Lattice{Order: [][]bool{nil}}, false},
		"no names and one":    {api.Lattice{}, api.Lattice{Names: []string{""}}, false},
		"another name":        {two(), api.Lattice{Names: []string{"a", "c"}, Order: above("11", "01")}, false},
		"names turned":        {two(), api.Lattice{Names: []string{"b", "a"}, Order: above("11", "01")}, false},
		"both turned":         {two(), api.Lattice{Names: []string{"b", "a"}, Order: above("10", "11")}, false},
		"another order":       {two(), api.Lattice{Names: letters(2), Order: above("10", "11")}, false},
		"one place":           {two(), api.Lattice{Names: letters(2), Order: above("11", "00")}, false},
		"a name more":         {two(), api.Lattice{Names: letters(3), Order: above("11", "01")}, false},
		"a row more":          {two(), api.Lattice{Names: letters(2), Order: above("11", "01", "")}, false},
		"a longer row":        {two(), api.Lattice{Names: letters(2), Order: above("11", "010")}, false},
		"a shorter row":       {two(), api.Lattice{Names: letters(2), Order: above("11", "0")}, false},
		"unformed and formed": {two(), api.Lattice{}, false},
		"other wrong bytes":   {api.Lattice{Names: []string{"\xff"}}, api.Lattice{Names: []string{"\xfe"}}, false},
	} {
		if lattice.Same(x.a, x.b) != x.want || lattice.Same(x.b, x.a) != x.want {
			t.Errorf("%s: want %v", name, x.want)
		}
	}
	for name, l := range unformed() {
		if !lattice.Same(l, l) || !lattice.Same(l, unformed()[name]) {
			t.Errorf("%s isn't the same as itself", name)
		}
		for other, m := range unformed() {
			empty := len(l.Names)+len(l.Order)+len(m.Names)+len(m.Order) == 0
			if name != other && !empty && lattice.Same(l, m) {
				t.Errorf("%s is the same as %s", name, other)
			}
		}
	}
}
