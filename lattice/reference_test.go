package lattice_test

import (
	"slices"
	"testing"

	"palisade/api"
	"palisade/lattice"
)

// The reference below is written from the chapter's words, clause by clause, row by row, so that it shares no idea with the package.

func refJoin(order [][]bool, a, b int) int {
	return refBound(len(order), a, b, func(x, y int) bool { return order[x][y] })
}

func refMeet(order [][]bool, a, b int) int {
	return refBound(len(order), a, b, func(x, y int) bool { return order[y][x] })
}

// refBound: a label that both are under, and that is under all such.
func refBound(n, a, b int, under func(x, y int) bool) int {
	for c := range n {
		good := under(a, c) && under(b, c)
		for d := range n {
			if under(a, d) && under(b, d) && !under(c, d) {
				good = false
			}
		}
		if good {
			return c
		}
	}
	return api.None
}

func refFormed(order [][]bool) bool {
	n := len(order)
	for a := range n {
		if !order[a][a] {
			return false
		}
		for b := range n {
			if a != b && order[a][b] && order[b][a] {
				return false
			}
			for c := range n {
				if order[a][b] && order[b][c] && !order[a][c] {
					return false
				}
			}
		}
	}
	for a := range n {
		for b := range n {
			if refJoin(order, a, b) == api.None || refMeet(order, a, b) == api.None {
				return false
			}
		}
	}
	return true
}

func refBelow(order [][]bool, a int) []int {
	var below []int
	for b := range order {
		if order[b][a] {
			below = append(below, b)
		}
	}
	return below
}

// refEnd is the label that is below all, or above all.
func refEnd(order [][]bool, lowest bool) int {
	for a := range order {
		all := true
		for b := range order {
			all = all && (lowest && order[a][b] || !lowest && order[b][a])
		}
		if all {
			return a
		}
	}
	return api.None
}

func letters(n int) []string {
	var names []string
	for i := range n {
		names = append(names, string(rune('a'+i)))
	}
	return names
}

// relations gives each relation of n labels; those of which not each is below itself only if loose holds.
func relations(n int, loose bool) func(func(api.Lattice) bool) {
	return func(yield func(api.Lattice) bool) {
		free := n * n
		if !loose {
			free = n * (n - 1)
		}
		for bits := range 1 << free {
			if !yield(api.Lattice{Names: letters(n), Order: relation(n, bits, loose)}) {
				return
			}
		}
	}
}

func relation(n, bits int, loose bool) [][]bool {
	order := make([][]bool, n)
	for a := range n {
		order[a] = make([]bool, n)
		for b := range n {
			if a == b && !loose {
				order[a][b] = true
				continue
			}
			order[a][b] = bits&1 == 1
			bits >>= 1
		}
	}
	return order
}

// TestFormedOfAllRelations (P1.1): every relation of up to 4 labels, and every one of 5 in which each is below itself. That there are 1, 2, 6, 36 and 380 lattices of so many named labels is known.
func TestFormedOfAllRelations(t *testing.T) {
	for n, want := range []int{0, 1, 2, 6, 36, 380} {
		count := 0
		for l := range relations(n, n < 5) {
			got := lattice.Formed(l)
			if got != (n > 0 && refFormed(l.Order)) {
				t.Fatalf("Formed(%v) = %v", l, got)
			}
			if got {
				count++
				sameAsReference(t, l)
				boundsFollow(t, l)
			} else if n < 4 {
				answersNothing(t, l)
			}
		}
		if count != want {
			t.Errorf("%d lattices of %d labels, want %d", count, n, want)
		}
	}
}

// TestGreatLattices (P1.1): lattices of MaxLabels labels.
func TestGreatLattices(t *testing.T) {
	for name, l := range greatLattices(t) {
		if len(l.Names) != api.MaxLabels || !lattice.Formed(l) || !refFormed(l.Order) {
			t.Errorf("%s isn't formed: %v", name, l)
			continue
		}
		sameAsReference(t, l)
		boundsFollow(t, l)
	}
}

func greatLattices(t *testing.T) map[string]api.Lattice {
	t.Helper()
	n := api.MaxLabels
	var chain, fan, cube [][2]int
	for a := range n - 1 {
		chain = append(chain, [2]int{n - 1 - a, n - 2 - a})
	}
	for a := 1; a < n-1; a++ {
		fan = append(fan, [2]int{0, a}, [2]int{a, n - 1})
	}
	for a := range n {
		for bit := 1; bit < n; bit *= 2 {
			cube = append(cube, [2]int{a, a | bit})
		}
	}
	found := map[string]api.Lattice{}
	for name, pairs := range map[string][][2]int{"chain": chain, "fan": fan, "cube": cube} {
		l, e := lattice.Make(letters(n), pairs)
		if e != api.OK {
			t.Errorf("%s: %d", name, e)
		}
		found[name] = l
	}
	return found
}

// sameAsReference holds each call on a formed lattice against the reference, numbers that are no labels too.
func sameAsReference(t *testing.T, l api.Lattice) {
	t.Helper()
	n := len(l.Names)
	if got := lattice.Bottom(l); got != refEnd(l.Order, true) {
		t.Errorf("Bottom(%v) = %d", l, got)
	}
	if got := lattice.Top(l); got != refEnd(l.Order, false) {
		t.Errorf("Top(%v) = %d", l, got)
	}
	for a := -2; a < n+2; a++ {
		var below []int
		if a >= 0 && a < n {
			below = refBelow(l.Order, a)
		}
		if got := lattice.Below(l, a); !slices.Equal(got, below) {
			t.Errorf("Below(%v, %d) = %v, want %v", l, a, got, below)
		}
		for b := -2; b < n+2; b++ {
			sameOfTwo(t, l, a, b)
		}
	}
	for a, name := range l.Names {
		if got := lattice.Find(l, name); got != a {
			t.Errorf("Find(%v, %q) = %d", l, name, got)
		}
	}
}

func sameOfTwo(t *testing.T, l api.Lattice, a, b int) {
	t.Helper()
	n := len(l.Names)
	aIs, bIs := a >= 0 && a < n, b >= 0 && b < n
	leq, join, meet, both := false, api.None, api.None, api.None
	switch {
	case aIs && bIs:
		leq, join, meet = l.Order[a][b], refJoin(l.Order, a, b), refMeet(l.Order, a, b)
		both = join
	case aIs && b == api.None:
		both = a
	case bIs && a == api.None:
		both = b
	}
	if got := lattice.Leq(l, a, b); got != leq {
		t.Errorf("Leq(%v, %d, %d) = %v, want %v", l, a, b, got, leq)
	}
	if got := lattice.Join(l, a, b); got != join {
		t.Errorf("Join(%v, %d, %d) = %d, want %d", l, a, b, got, join)
	}
	if got := lattice.Meet(l, a, b); got != meet {
		t.Errorf("Meet(%v, %d, %d) = %d, want %d", l, a, b, got, meet)
	}
	if got := lattice.Both(l, a, b); got != both {
		t.Errorf("Both(%v, %d, %d) = %d, want %d", l, a, b, got, both)
	}
}

// boundsFollow (P1.4): joins and meets do not hang on the order, and tell who is below whom.
func boundsFollow(t *testing.T, l api.Lattice) {
	t.Helper()
	for a := range l.Names {
		for b := range l.Names {
			join, meet, leq := lattice.Join(l, a, b), lattice.Meet(l, a, b), lattice.Leq(l, a, b)
			if join != lattice.Join(l, b, a) || meet != lattice.Meet(l, b, a) {
				t.Errorf("bounds of %d and %d hang on the order: %v", a, b, l)
			}
			if leq != (join == b) || leq != (meet == a) {
				t.Errorf("Leq(%d, %d) = %v, but Join %d and Meet %d: %v", a, b, leq, join, meet, l)
			}
			for c := range l.Names {
				if lattice.Join(l, join, c) != lattice.Join(l, a, lattice.Join(l, b, c)) || lattice.Meet(l, meet, c) != lattice.Meet(l, a, lattice.Meet(l, b, c)) {
					t.Errorf("bounds of %d, %d, %d hang on the order: %v", a, b, c, l)
				}
			}
		}
	}
}

// answersNothing: what each call answers of a lattice that isn't formed.
func answersNothing(t *testing.T, l api.Lattice) {
	t.Helper()
	if lattice.Formed(l) {
		t.Errorf("%v is formed", l)
	}
	if lattice.Bottom(l) != api.None || lattice.Top(l) != api.None {
		t.Errorf("%v has a bottom or a top", l)
	}
	for _, name := range append([]string{"", "a", "low", "\xff"}, l.Names...) {
		if lattice.Find(l, name) != api.None {
			t.Errorf("Find(%v, %q) = %d", l, name, lattice.Find(l, name))
		}
	}
	for _, a := range numbers {
		if len(lattice.Below(l, a)) != 0 {
			t.Errorf("Below(%v, %d) = %v", l, a, lattice.Below(l, a))
		}
		for _, b := range numbers {
			if lattice.Leq(l, a, b) || lattice.Join(l, a, b) != api.None || lattice.Meet(l, a, b) != api.None || lattice.Both(l, a, b) != api.None {
				t.Errorf("%d and %d of %v have an answer", a, b, l)
			}
		}
	}
}
