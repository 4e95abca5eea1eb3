package parse

import (
	"math"

	"thunk/api"
	"thunk/scan"
	"thunk/tree"
)

// expr reads an expression. Closes tells whether a line or a bind takes the ;
// that no case takes: within parentheses, and in the subject of a case, none
// does, unless a let begins there.
func (r *reader) expr(closes bool) tree.Expr {
	switch {
	case r.accept("let"):
		return r.let(closes)
	case r.accept("case"):
		return r.choice(closes)
	case r.accept(`\`):
		return r.lambda(closes)
	}
	return r.test()
}

func (r *reader) let(closes bool) tree.Expr {
	e := tree.Let{Recursive: r.accept("rec")}
	e.Binds = append(e.Binds, r.bind())
	for r.accept(";") {
		e.Binds = append(e.Binds, r.bind())
	}
	r.expect("in")
	e.Body = r.expr(closes)
	return e
}

func (r *reader) bind() tree.Bind {
	b := tree.Bind{Name: r.name()}
	r.expect("=")
	b.Body = r.expr(true)
	return b
}

func (r *reader) choice(closes bool) tree.Expr {
	e := tree.Case{Subject: r.expr(false)}
	r.expect("of")
	e.Arms = append(e.Arms, r.arm(closes))
	for r.armFollows(closes) {
		r.expect(";")
		e.Arms = append(e.Arms, r.arm(closes))
	}
	return e
}

// armFollows tells whether a ; belongs to the case whose arm was just read.
// Where no line or bind could take it, only an arm makes sense of it, and if
// none comes, what stands behind the ; is to blame.
func (r *reader) armFollows(closes bool) bool {
	if !r.is(";") {
		return false
	}
	return !closes || r.tokens[r.next+1].Text == "<"
}

func (r *reader) arm(closes bool) tree.Arm {
	r.expect("<")
	a := tree.Arm{Tag: r.tag()}
	r.expect(">")
	a.Names = r.names()
	r.expect("->")
	a.Body = r.expr(closes)
	return a
}

func (r *reader) lambda(closes bool) tree.Expr {
	e := tree.Lambda{Params: []tree.Name{r.name()}}
	e.Params = append(e.Params, r.names()...)
	r.expect(".")
	e.Body = r.expr(closes)
	return e
}

func (r *reader) test() tree.Expr {
	left := r.sum()
	if r.is("==") || r.is("<") {
		return r.operation(left, r.sum)
	}
	return left
}

func (r *reader) sum() tree.Expr {
	e := r.product()
	for r.is("+") || r.is("-") {
		e = r.operation(e, r.product)
	}
	return e
}

func (r *reader) product() tree.Expr {
	e := r.call()
	for r.is("*") || r.is("/") {
		e = r.operation(e, r.call)
	}
	return e
}

// operation reads a sign and what stands at its right.
func (r *reader) operation(left tree.Expr, right func() tree.Expr) tree.Expr {
	sign := r.token().Text
	r.expect(sign)
	return tree.Operation{Sign: sign, Left: left, Right: right()}
}

func (r *reader) call() tree.Expr {
	e := r.atom()
	for r.atomFollows() {
		e = tree.Call{Function: e, Argument: r.atom()}
	}
	return e
}

func (r *reader) atomFollows() bool {
	kind := r.token().Kind
	return kind == scan.Name || kind == scan.Number || r.is("{") || r.is("(")
}

func (r *reader) atom() tree.Expr {
	switch {
	case r.token().Kind == scan.Name:
		return tree.Use{Name: r.name()}
	case r.token().Kind == scan.Number:
		// Any number may stand here, and MaxDigits digits stay below the bound.
		return tree.Number{Value: int64(r.number(0, math.MaxInt32))}
	case r.accept("{"):
		return r.maker()
	case r.accept("("):
		e := r.expr(false)
		r.expect(")")
		return e
	}
	r.fail()
	return nil
}

func (r *reader) maker() tree.Expr {
	e := tree.Maker{Tag: r.tag()}
	r.expect(",")
	e.Arity = r.number(0, api.MaxArity)
	r.expect("}")
	return e
}
