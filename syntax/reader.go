package syntax

import (
	"slices"

	"palisade/api"
	"palisade/lattice"
	"palisade/lex"
	"palisade/types"
)

// The kinds of words that the grammar takes as such; all others it takes by their texts.
const (
	kindName   = 1
	kindNumber = 3
)

// fault is what goes up from where something is wrong: its place, and the error.
type fault struct {
	at  int
	err api.Errno
}

// reader is the words that are still to be read.
type reader struct {
	left    []lex.Tok
	end     int // the text's length: the place of words that lack
	lattice api.Lattice
}

// read is the program that these words of a text of that length are; or a place and an error.
func read(words []lex.Tok, length int) (p api.Program, at int, e api.Errno) {
	defer func() {
		up := recover()
		if up == nil {
			return
		}
		f, ok := up.(fault)
		if !ok {
			panic(up)
		}
		at, e = f.at, f.err
	}()
	r := &reader{left: words, end: length}
	return r.program(), 0, api.OK
}

// next is the next word; where there is none, one of no kind, at the text's end.
func (r *reader) next() lex.Tok {
	if len(r.left) == 0 {
		return lex.Tok{At: r.end}
	}
	return r.left[0]
}

// take is the next word, which is one, and goes past it.
func (r *reader) take() lex.Tok {
	word := r.left[0]
	r.left = r.left[1:]
	return word
}

// wrong is the fault of a next word with which no program goes on.
func (r *reader) wrong() fault {
	return fault{r.next().At, api.ErrSyntax}
}

// is tells whether the next word is one of these keywords and signs. A name or a number has never their texts.
func (r *reader) is(texts ...string) bool {
	return slices.Contains(texts, r.next().Text)
}

// skip goes past the next word, if it is that one, and tells whether it was.
func (r *reader) skip(text string) bool {
	if !r.is(text) {
		return false
	}
	r.take()
	return true
}

// need goes past words that must stand here.
func (r *reader) need(texts ...string) {
	for _, text := range texts {
		if !r.skip(text) {
			panic(r.wrong())
		}
	}
}

func (r *reader) name() string {
	if r.next().Kind != kindName {
		panic(r.wrong())
	}
	return r.take().Text
}

func (r *reader) program() api.Program {
	r.lattice = r.block()
	p := api.Program{Lattice: r.lattice}
	r.need("main")
	p.Arg, p.Param, p.Result = r.head()
	p.Exc = r.exc()
	r.need("=")
	p.Body = r.seq()
	if len(r.left) > 0 {
		panic(r.wrong())
	}
	if !small(p.Body) {
		panic(fault{p.Body.At, api.ErrLimit})
	}
	return p
}

// block is the lattice that a program begins with.
func (r *reader) block() api.Lattice {
	at := r.next().At
	r.need("lattice", "{")
	var o order
	r.item(&o)
	for r.skip(",") {
		r.item(&o)
	}
	r.need("}")
	l, e := lattice.Make(o.names, o.pairs)
	if e != api.OK {
		panic(fault{at, api.ErrLattice})
	}
	return l
}

// order is what the items say that were read.
type order struct {
	names []string
	pairs [][2]int
}

func (r *reader) item(o *order) {
	a := o.label(r.name())
	if r.skip("<") {
		o.pairs = append(o.pairs, [2]int{a, o.label(r.name())})
	}
}

// label is the number of that name, which has one from where it first stands.
func (o *order) label(name string) int {
	if a := slices.Index(o.names, name); a >= 0 {
		return a
	}
	o.names = append(o.names, name)
	return len(o.names) - 1
}

// head is what main and a function have alike: what is taken, its name ahead, and what is given, up to the sign behind which the bounds stand.
func (r *reader) head() (arg string, param, result api.Type) {
	r.need("(")
	arg = r.name()
	r.need(":")
	param = r.typ()
	r.need(")", ":")
	result = r.typ()
	r.need("!")
	return arg, param, result
}

// typ is a type. Those that stand in it are asked one by one whether they are formed, as their last words come ahead of its own.
func (r *reader) typ() api.Type {
	at := r.next().At
	t := r.shape()
	r.need("@")
	t.Label = r.label()
	if !types.Formed(r.lattice, t) {
		panic(fault{at, api.ErrLimit})
	}
	return t
}

// shape is a type without its label.
func (r *reader) shape() api.Type {
	switch {
	case r.skip("int"):
		return api.Type{Kind: api.Int}
	case r.skip("bool"):
		return api.Type{Kind: api.Bool}
	case r.skip("("):
		first := r.typ()
		r.need(",")
		second := r.typ()
		r.need(")")
		return shaped(api.Pair, first, second)
	case r.skip("["):
		return r.funShape()
	case r.skip("ref"):
		r.need("(")
		held := r.typ()
		r.need(")")
		return shaped(api.Ref, held)
	}
	panic(r.wrong())
}

func (r *reader) funShape() api.Type {
	taken := r.typ()
	r.need("->")
	given := r.typ()
	r.need("!")
	t := shaped(api.Fun, taken, given)
	t.Heap, t.Exc = r.bounds()
	r.need("]")
	return t
}

func shaped(kind int, parts ...api.Type) api.Type {
	return api.Type{Kind: kind, Parts: parts}
}

// bounds are a function's Heap and Exc.
func (r *reader) bounds() (heap, exc int) {
	heap = r.label()
	r.need(",")
	return heap, r.exc()
}

func (r *reader) exc() int {
	if r.skip("none") {
		return api.None
	}
	return r.label()
}

func (r *reader) label() int {
	word := r.next()
	a := lattice.Find(r.lattice, word.Text)
	if word.Kind != kindName || a == api.None {
		panic(r.wrong())
	}
	r.take()
	return a
}
