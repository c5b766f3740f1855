package lattice

import "palisade/api"

// set is labels, a bit for each. Orders are asked by sets, and not row by row, because every call asks anew whether its lattice is formed: all layers above wait for that.
type set uint

func (s set) has(a int) bool {
	return s>>a&1 == 1
}

// order is, for each label, the set of those above it and of those below it.
type order struct {
	size  int
	above [api.MaxLabels]set
	below [api.MaxLabels]set
}

// orderOf takes rows that are as many, and as long, as there are labels.
func orderOf(rows [][]bool) *order {
	o := &order{size: len(rows)}
	for a, row := range rows {
		for b, below := range row {
			if below {
				o.above[a] |= 1 << b
				o.below[b] |= 1 << a
			}
		}
	}
	return o
}

// partial tells whether each label is below itself, no two unlike ones are below one another, and what is below one that is below a third is below the third.
func (o *order) partial() bool {
	for a := range o.size {
		if o.above[a]&o.below[a] != 1<<a {
			return false
		}
		for b := range o.size {
			if o.above[a].has(b) && o.above[b]&^o.above[a] != 0 {
				return false
			}
		}
	}
	return true
}

// bounded tells whether each two labels have a join and a meet.
func (o *order) bounded() bool {
	for a := range o.size {
		for b := range a {
			if o.join(a, b) == api.None || o.meet(a, b) == api.None {
				return false
			}
		}
	}
	return true
}

// join is the least label that is above all these, or None; of no labels it is the bottom.
func (o *order) join(labels ...int) int {
	return nearest(o.all(), &o.above, labels...)
}

// meet is the greatest label that is below all these, or None; of no labels it is the top.
func (o *order) meet(labels ...int) int {
	return nearest(o.all(), &o.below, labels...)
}

func (o *order) all() set {
	return 1<<o.size - 1
}

// nearest is the one label, among those that all the given ones reach, that reaches all others among them, or None. What is above and what is below differ only in the way of reaching, so both bounds are found here.
func nearest(bounds set, reach *[api.MaxLabels]set, labels ...int) int {
	for _, a := range labels {
		bounds &= reach[a]
	}
	for a, reached := range reach {
		if bounds.has(a) && bounds&^reached == 0 {
			return a
		}
	}
	return api.None
}

// leastOrder is the least order of so many labels in which each is below itself and the first of each pair below the second. Each row is memory of its own: no two lists of an answer share any.
func leastOrder(size int, pairs [][2]int) [][]bool {
	rows := make([][]bool, size)
	for a := range rows {
		rows[a] = make([]bool, size)
		rows[a][a] = true
	}
	for _, pair := range pairs {
		rows[pair[0]][pair[1]] = true
	}
	// The one in the middle is the outermost loop: once it has been b's turn, all ways through labels up to b are known, so one pass is enough.
	for b := range rows {
		for a := range rows {
			if rows[a][b] {
				addAll(rows[a], rows[b])
			}
		}
	}
	return rows
}

func addAll(row, more []bool) {
	for c, below := range more {
		if below {
			row[c] = true
		}
	}
}
