package walk

import "slices"

// Copy is t in memory of its own; with is a node with other Parts.
func Copy[T any](t T, parts func(T) []T, with func(T, []T) T) T {
	if Count(t, parts, firstStretch) <= firstStretch {
		return unfolded(t, parts, with)
	}
	m := mirror[T]{parts: parts, with: with, made: map[place[T]][]T{}}
	return m.tree(t)
}

// unfolded shares no memory within itself, even where t does.
func unfolded[T any](t T, parts func(T) []T, with func(T, []T) T) T {
	made := slices.Clone(parts(t))
	for i := range made {
		made[i] = unfolded(made[i], parts, with)
	}
	return with(t, made)
}

// mirror copies each list of a great tree once, wherever it stands, as the tree may have far more nodes than memory, and may stand in itself.
type mirror[T any] struct {
	parts func(T) []T
	with  func(T, []T) T
	made  map[place[T]][]T
	later [][]T
}

func (m *mirror[T]) tree(t T) T {
	t = m.with(t, m.list(m.parts(t)))
	for len(m.later) > 0 {
		last := len(m.later) - 1
		next := m.later[last]
		m.later = m.later[:last]
		for i := range next {
			next[i] = m.with(next[i], m.list(m.parts(next[i])))
		}
	}
	return t
}

// list is the copy of a list, whose members' own Parts may still be to be copied.
func (m *mirror[T]) list(nodes []T) []T {
	if len(nodes) == 0 {
		return nil
	}
	at := place[T]{s: &nodes[0], size: len(nodes)}
	made, met := m.made[at]
	if !met {
		made = slices.Clone(nodes)
		m.made[at] = made
		m.later = append(m.later, made)
	}
	return made
}
