package eval

import (
	"palisade/api"
	"palisade/free"
)

// node is an expression of the Body; if it is a function, with its number and what it captures. Each place of the Body has a node of its own: expressions may share memory, but their functions don't share numbers.
type node struct {
	*api.Expr
	parts  []*node
	number int64
	caps   []string
}

// anything stands for a value of any kind.
const anything = -1

// wanted is, of each Kind of expression, of which kinds the values of its Parts must be for what it does itself: 0, where it needs no such value.
var wanted = [...][2]int{
	api.ELet:    {anything},
	api.EIf:     {api.Bool},
	api.ECall:   {api.Fun, anything},
	api.EPair:   {anything, anything},
	api.EFirst:  {api.Pair},
	api.ESecond: {api.Pair},
	api.ENew:    {anything},
	api.EGet:    {api.Ref},
	api.ESet:    {api.Ref, anything},
	api.EOut:    {api.Int},
	api.ERaise:  {api.Int},
	api.ETry:    {anything},
	api.ESeq:    {anything},
	api.EBin:    {api.Int, api.Int},
	api.ENot:    {api.Bool},
}

// needs tells whether it needs the value of one Part more, where it has those of so many.
func (n *node) needs(done int) bool {
	return done < 2 && wanted[n.Kind][done] != 0
}

// takes tells whether the values are of the kinds that it needs.
func (n *node) takes(first, second api.Value) bool {
	kinds := wanted[n.Kind]
	return (kinds[0] <= 0 || kinds[0] == first.Kind) && (kinds[1] <= 0 || kinds[1] == second.Kind)
}

// lay is e as a node, its functions behind those that were laid ahead of it.
func (r *run) lay(e *api.Expr) *node {
	n := &node{Expr: e}
	if e.Kind == api.EFun {
		r.functions = append(r.functions, n)
		n.number = int64(len(r.functions))
	}
	for i := range e.Parts {
		n.parts = append(n.parts, r.lay(&e.Parts[i]))
	}
	return n
}

// capture is told all functions that were laid, in their order.
func (r *run) capture(table []free.Entry) {
	for i, entry := range table {
		r.functions[i].caps = entry.Caps
	}
}

// function is that of a number, and whether there is one.
func (r *run) function(number int64) (*node, bool) {
	if number < 1 || number > int64(len(r.functions)) {
		return nil, false
	}
	return r.functions[number-1], true
}
