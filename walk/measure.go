package walk

// Count is how many nodes t has, but most + 1, if it has more.
func Count[T any](t T, parts func(T) []T, most int) int {
	return count(t, parts, most, 0)
}

// count counts on from those that stand ahead of t. It looks at no more than it counts, so that a tree of any size is soon counted.
func count[T any](t T, parts func(T) []T, most, ahead int) int {
	counted := ahead + 1
	for _, part := range parts(t) {
		if counted > most {
			break
		}
		counted = count(part, parts, most, counted)
	}
	return counted
}

// Deep is how deep t nests, one without Parts being 1 deep; but most + 1, if it is deeper.
func Deep[T any](t T, parts func(T) []T, most int) int {
	deep := 0
	for level := [][]T{{t}}; len(level) > 0 && deep <= most; deep++ {
		level = nextLevel(level, parts)
	}
	return deep
}

// nextLevel is the Parts of all nodes of a level. A list that stands in many of them is taken once, so that no level has more lists than the tree has memory.
func nextLevel[T any](level [][]T, parts func(T) []T) [][]T {
	var next [][]T
	seen := map[place[T]]struct{}{}
	for _, nodes := range level {
		for _, node := range nodes {
			found := parts(node)
			if len(found) == 0 {
				continue
			}
			at := place[T]{s: &found[0], size: len(found)}
			if _, met := seen[at]; !met {
				seen[at] = struct{}{}
				next = append(next, found)
			}
		}
	}
	return next
}
