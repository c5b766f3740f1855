package syntax

import "palisade/api"

// made is an expression of that Kind, at that place.
func made(kind, at int, parts ...api.Expr) api.Expr {
	return api.Expr{Kind: kind, Parts: parts, At: at}
}

// joined is what joins two expressions, at the first one's place.
func joined(kind int, first, second api.Expr) api.Expr {
	return made(kind, first.At, first, second)
}

func (r *reader) seq() api.Expr {
	first := r.expr()
	if !r.skip(";") {
		return first
	}
	return joined(api.ESeq, first, r.seq())
}

func (r *reader) expr() api.Expr {
	at := r.next().At
	switch {
	case r.skip("let"):
		return r.let(at)
	case r.skip("if"):
		return r.choice(at)
	case r.skip("fun"):
		return r.fun(at)
	}
	first := r.compare()
	if !r.skip(":=") {
		return first
	}
	return joined(api.ESet, first, r.expr())
}

func (r *reader) let(at int) api.Expr {
	name := r.name()
	r.need("=")
	is := r.expr()
	r.need("in")
	e := made(api.ELet, at, is, r.seq())
	e.Text = name
	return e
}

func (r *reader) choice(at int) api.Expr {
	asked := r.expr()
	r.need("then")
	one := r.expr()
	r.need("else")
	return made(api.EIf, at, asked, one, r.expr())
}

func (r *reader) fun(at int) api.Expr {
	e := made(api.EFun, at)
	e.Text = r.name()
	e.Arg, e.Type, e.Give = r.head()
	heap, exc := r.bounds()
	e.N, e.M = int64(heap), int64(exc)
	r.need("=>")
	e.Parts = append(e.Parts, r.expr())
	return e
}

func (r *reader) compare() api.Expr {
	first := r.sum()
	if !r.is("<", "==") {
		return first
	}
	return r.bin(first, r.sum)
}

func (r *reader) sum() api.Expr {
	e := r.product()
	for r.is("+", "-") {
		e = r.bin(e, r.product)
	}
	return e
}

func (r *reader) product() api.Expr {
	e := r.unary()
	for r.is("*", "/", "%") {
		e = r.bin(e, r.unary)
	}
	return e
}

// bin joins what was read with what is read behind the next word, which is the sign of an Op.
func (r *reader) bin(first api.Expr, second func() api.Expr) api.Expr {
	op := opOf(r.take().Text)
	e := joined(api.EBin, first, second())
	e.N = op
	return e
}

func opOf(text string) int64 {
	op := int64(api.OpAdd)
	for i, sign := range signs {
		if sign == text {
			op += int64(i)
		}
	}
	return op
}

func (r *reader) unary() api.Expr {
	e := made(0, r.next().At)
	switch {
	case r.skip("not"):
		e.Kind = api.ENot
	case r.skip("!"):
		e.Kind = api.EGet
	case r.skip("fst"):
		e.Kind = api.EFirst
	case r.skip("snd"):
		e.Kind = api.ESecond
	case r.skip("out"):
		e.Kind = api.EOut
		r.need("[")
		e.N = int64(r.label())
		r.need("]")
	case r.skip("new"):
		e.Kind, e.Type = api.ENew, r.typeInBrackets()
	case r.skip("raise"):
		e.Kind, e.Type = api.ERaise, r.typeInBrackets()
	default:
		return r.call()
	}
	e.Parts = append(e.Parts, r.unary())
	return e
}

func (r *reader) typeInBrackets() api.Type {
	r.need("[")
	t := r.typ()
	r.need("]")
	return t
}

func (r *reader) call() api.Expr {
	e := r.atom()
	for r.skip("(") {
		e = joined(api.ECall, e, r.seq())
		r.need(")")
	}
	return e
}

func (r *reader) atom() api.Expr {
	word := r.next()
	e := made(0, word.At)
	switch {
	case word.Kind == kindNumber:
		e.Kind, e.N = api.EInt, r.take().N
	case word.Kind == kindName:
		e.Kind, e.Text = api.EVar, r.take().Text
	case r.skip("true"):
		e.Kind, e.N = api.EBool, 1
	case r.skip("false"):
		e.Kind = api.EBool
	case r.skip("("):
		return r.brackets(word.At)
	case r.skip("try"):
		return r.try(word.At)
	default:
		panic(r.wrong())
	}
	return e
}

// brackets is what stands in round brackets, the first of which was read at that place: an expression as it is, or a pair.
func (r *reader) brackets(at int) api.Expr {
	e := r.seq()
	if r.skip(",") {
		e = made(api.EPair, at, e, r.seq())
	}
	r.need(")")
	return e
}

func (r *reader) try(at int) api.Expr {
	tried := r.seq()
	r.need("with")
	name := r.name()
	r.need("=>")
	e := made(api.ETry, at, tried, r.seq())
	e.Text = name
	r.need("end")
	return e
}
