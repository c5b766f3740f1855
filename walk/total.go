package walk

// Total is how many nodes of t are such, but most, if they are more.
func Total[T any](t T, parts func(T) []T, such func(T) bool, most int) int {
	l := lists[T]{parts: parts, such: such, known: map[place[T]]int{}}
	l.gather(t)
	l.findHolding()
	return l.total(most)
}

// lists has each list of a tree once, wherever it stands, as the tree may have far more nodes than memory, and may stand in itself. The first one has the tree's first node alone.
type lists[T any] struct {
	parts func(T) []T
	such  func(T) bool
	known map[place[T]]int
	all   []list[T]
}

// list is nodes that stand side by side, and how many of them are such. It stands above its nodes' Parts, above each as often as these stand there. It holds some, if there are such nodes in it or anywhere beneath.
type list[T any] struct {
	nodes []T
	own   int
	above []int
	holds bool
}

func (l *lists[T]) gather(t T) {
	l.all = append(l.all, list[T]{nodes: []T{t}})
	for i := 0; i < len(l.all); i++ {
		for _, node := range l.all[i].nodes {
			if l.such(node) {
				l.all[i].own++
			}
			if found := l.parts(node); len(found) > 0 {
				below := l.number(found)
				l.all[below].above = append(l.all[below].above, i)
			}
		}
	}
}

func (l *lists[T]) number(nodes []T) int {
	at := place[T]{s: &nodes[0], size: len(nodes)}
	n, met := l.known[at]
	if !met {
		n = len(l.all)
		l.known[at] = n
		l.all = append(l.all, list[T]{nodes: nodes})
	}
	return n
}

func (l *lists[T]) findHolding() {
	var later []int
	meet := func(i int) {
		if !l.all[i].holds {
			l.all[i].holds = true
			later = append(later, i)
		}
	}
	for i := range l.all {
		if l.all[i].own > 0 {
			meet(i)
		}
	}
	for len(later) > 0 {
		last := later[len(later)-1]
		later = later[:len(later)-1]
		for _, above := range l.all[last].above {
			meet(above)
		}
	}
}

// total adds up the lists that hold some, each when all beneath it are added up. A list that waits for itself has no end of them, and so has the first one, if it is among those that wait for it.
func (l *lists[T]) total(most int) int {
	waits, sums := l.waits(), make([]int, len(l.all))
	var ready []int
	for i := range l.all {
		sums[i] = min(l.all[i].own, most)
		if l.all[i].holds && waits[i] == 0 {
			ready = append(ready, i)
		}
	}
	for len(ready) > 0 {
		done := ready[len(ready)-1]
		ready = ready[:len(ready)-1]
		for _, above := range l.all[done].above {
			sums[above] += min(sums[done], most-sums[above])
			if waits[above]--; waits[above] == 0 {
				ready = append(ready, above)
			}
		}
	}
	if waits[0] > 0 {
		return most
	}
	return sums[0]
}

// waits is for how many each list waits: the lists beneath it that hold some.
func (l *lists[T]) waits() []int {
	waits := make([]int, len(l.all))
	for _, below := range l.all {
		if below.holds {
			for _, above := range below.above {
				waits[above]++
			}
		}
	}
	return waits
}
