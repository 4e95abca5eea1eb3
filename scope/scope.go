// Package scope finds the names of a program that are wrong.
package scope

import (
	"slices"

	"thunk/tree"
)

// checker keeps the first wrong name. It goes through a program just as the
// names stand in the source, so that the first one found is the leftmost.
type checker struct {
	found bool
	place int
}

// FirstWrong gives the place of the first name from the left that is wrong.
func FirstWrong(program tree.Program) (place int, found bool) {
	c := &checker{}
	functions := program.Names()
	for i, f := range program {
		c.fresh(f.Name, functions[:i])
		c.distinct(f.Params)
		c.expr(f.Body, slices.Concat(functions, tree.Texts(f.Params)))
	}
	return c.place, c.found
}

// HasMain tells whether a program has a main without parameters.
func HasMain(program tree.Program) bool {
	for _, f := range program {
		if f.Name.Text == "main" {
			return len(f.Params) == 0
		}
	}
	return false
}

func (c *checker) blame(name tree.Name) {
	if !c.found {
		c.found = true
		c.place = name.Place
	}
}

// fresh blames a name that stands there already.
func (c *checker) fresh(name tree.Name, taken []string) {
	if slices.Contains(taken, name.Text) {
		c.blame(name)
	}
}

func (c *checker) distinct(names []tree.Name) {
	taken := tree.Texts(names)
	for i, name := range names {
		c.fresh(name, taken[:i])
	}
}

// expr checks an expression; around are all the names that it may use.
func (c *checker) expr(e tree.Expr, around []string) {
	switch e := e.(type) {
	case tree.Use:
		if !slices.Contains(around, e.Name.Text) {
			c.blame(e.Name)
		}
	case tree.Call:
		c.expr(e.Function, around)
		c.expr(e.Argument, around)
	case tree.Operation:
		c.expr(e.Left, around)
		c.expr(e.Right, around)
	case tree.Let:
		c.let(e, around)
	case tree.Case:
		c.expr(e.Subject, around)
		for _, arm := range e.Arms {
			c.inside(arm.Names, arm.Body, around)
		}
	case tree.Lambda:
		c.inside(e.Params, e.Body, around)
	}
}

// inside checks names and the expression for which they stand.
func (c *checker) inside(names []tree.Name, body tree.Expr, around []string) {
	c.distinct(names)
	c.expr(body, slices.Concat(around, tree.Texts(names)))
}

func (c *checker) let(e tree.Let, around []string) {
	bound := e.Names()
	inner := slices.Concat(around, bound)
	seen := around
	if e.Recursive {
		seen = inner
	}
	for i, b := range e.Binds {
		c.fresh(b.Name, bound[:i])
		c.expr(b.Body, seen)
	}
	c.expr(e.Body, inner)
}
