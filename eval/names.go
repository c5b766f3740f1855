package eval

import "palisade/api"

// named is a name with its value, in a chain with those that stood ahead of it; so that what is done with more names leaves the chain of what isn't as it was.
type named struct {
	name  string
	value api.Value
	ahead *named
}

func (n *named) with(name string, v api.Value) *named {
	return &named{name, v, n}
}

// find is the value of the last one of that name.
func (n *named) find(name string) (api.Value, bool) {
	for ; n != nil; n = n.ahead {
		if n.name == name {
			return n.value, true
		}
	}
	return api.Value{}, false
}

// all are the values of names, in their order; false, if one has none.
func (n *named) all(names []string) ([]api.Value, bool) {
	var values []api.Value
	for _, name := range names {
		v, ok := n.find(name)
		if !ok {
			return nil, false
		}
		values = append(values, v)
	}
	return values, true
}
