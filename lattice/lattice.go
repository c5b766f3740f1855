// Package lattice is layer 1, labels and their order: see shared/doc/01-lattice.md.
package lattice

import (
	"slices"

	"palisade/api"
)

// maxPairs is how many pairs Make takes at most.
const maxPairs = 64

// Name tells whether s is a name.
func Name(s string) bool {
	runes := 0
	for _, r := range s {
		// Bytes that aren't right UTF-8 come as U+FFFD, which is neither a letter nor a digit.
		if runes == api.MaxName || !letter(r) && (runes == 0 || !digit(r)) {
			return false
		}
		runes++
	}
	return runes > 0
}

func letter(r rune) bool {
	return 'a' <= r && r <= 'z' || 'A' <= r && r <= 'Z' || '\u03b1' <= r && r <= '\u03c9'
}

func digit(r rune) bool {
	return '0' <= r && r <= '9'
}

// Formed tells whether l is a lattice.
func Formed(l api.Lattice) bool {
	if !namesFormed(l.Names) || !square(l.Order, len(l.Names)) {
		return false
	}
	o := orderOf(l.Order)
	return o.partial() && o.bounded()
}

func namesFormed(names []string) bool {
	if len(names) == 0 || len(names) > api.MaxLabels {
		return false
	}
	for i, name := range names {
		if !Name(name) || slices.Contains(names[:i], name) {
			return false
		}
	}
	return true
}

func square(rows [][]bool, size int) bool {
	if len(rows) != size {
		return false
	}
	for _, row := range rows {
		if len(row) != size {
			return false
		}
	}
	return true
}

// hasLabels tells whether l is formed and all these numbers are labels of it.
func hasLabels(l api.Lattice, labels ...int) bool {
	for _, a := range labels {
		if a < 0 || a >= len(l.Names) {
			return false
		}
	}
	return Formed(l)
}

// Leq tells whether a is below b, or is b.
func Leq(l api.Lattice, a, b int) bool {
	return hasLabels(l, a, b) && l.Order[a][b]
}

// Join is the least label above both, or None.
func Join(l api.Lattice, a, b int) int {
	if !hasLabels(l, a, b) {
		return api.None
	}
	return orderOf(l.Order).join(a, b)
}

// Meet is the greatest label below both, or None.
func Meet(l api.Lattice, a, b int) int {
	if !hasLabels(l, a, b) {
		return api.None
	}
	return orderOf(l.Order).meet(a, b)
}

// Both is the Join, but the other one, if one of both is None.
func Both(l api.Lattice, a, b int) int {
	// A label's Join with itself is that label, and Join refuses what is left if it is none.
	if a == api.None {
		a = b
	}
	if b == api.None {
		b = a
	}
	return Join(l, a, b)
}

// Bottom is the label below all, or None.
func Bottom(l api.Lattice) int {
	if !Formed(l) {
		return api.None
	}
	return orderOf(l.Order).join()
}

// Top is the label above all, or None.
func Top(l api.Lattice) int {
	if !Formed(l) {
		return api.None
	}
	return orderOf(l.Order).meet()
}

// Below is all labels below a, rising, and a.
func Below(l api.Lattice, a int) []int {
	if !hasLabels(l, a) {
		return nil
	}
	var found []int
	for b, row := range l.Order {
		if row[a] {
			found = append(found, b)
		}
	}
	return found
}

// Find is the label of that name, or None.
func Find(l api.Lattice, name string) int {
	if !Formed(l) {
		return api.None
	}
	for a, other := range l.Names {
		if other == name {
			return a
		}
	}
	return api.None
}

// Make is the lattice of these names in the least order that has the first of each pair below the second.
func Make(names []string, pairs [][2]int) (api.Lattice, api.Errno) {
	if len(names) > api.MaxLabels || len(pairs) > maxPairs {
		return api.Lattice{}, api.ErrLong
	}
	if !pairsInRange(pairs, len(names)) {
		return api.Lattice{}, api.ErrRange
	}
	l := api.Lattice{Names: slices.Clone(names), Order: leastOrder(len(names), pairs)}
	if !Formed(l) {
		return api.Lattice{}, api.ErrLattice
	}
	return l, api.OK
}

func pairsInRange(pairs [][2]int, size int) bool {
	for _, pair := range pairs {
		for _, a := range pair {
			if a < 0 || a >= size {
				return false
			}
		}
	}
	return true
}

// Same tells whether both are alike, formed or not.
func Same(a, b api.Lattice) bool {
	return slices.Equal(a.Names, b.Names) && slices.EqualFunc(a.Order, b.Order, slices.Equal[[]bool])
}
