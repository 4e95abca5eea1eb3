// Package show writes a program in one way.
package show

import (
	"strconv"
	"strings"

	"thunk/tree"
)

// Program writes a line for each function.
func Program(program tree.Program) string {
	var out strings.Builder
	for _, f := range program {
		out.WriteString(f.Name.Text + spaced(f.Params) + " = " + expr(f.Body) + ";\n")
	}
	return out.String()
}

func expr(e tree.Expr) string {
	switch e := e.(type) {
	case tree.Use:
		return e.Name.Text
	case tree.Number:
		return strconv.FormatInt(e.Value, 10)
	case tree.Maker:
		return "{" + strconv.Itoa(e.Tag) + "," + strconv.Itoa(e.Arity) + "}"
	case tree.Call:
		return part(e.Function, tree.CallLevel) + " " + part(e.Argument, tree.AtomLevel)
	case tree.Operation:
		return operation(e)
	case tree.Let:
		return let(e)
	case tree.Case:
		return "case " + expr(e.Subject) + " of " + arms(e.Arms)
	case tree.Lambda:
		return `\` + strings.TrimPrefix(spaced(e.Params), " ") + ". " + expr(e.Body)
	}
	return ""
}

// part writes an expression where the grammar reads none below a level.
func part(e tree.Expr, least tree.Level) string {
	if e.Level() < least {
		return parenthesized(e)
	}
	return expr(e)
}

func parenthesized(e tree.Expr) string { return "(" + expr(e) + ")" }

// operation asks more of what stands at the right, since signs of one level
// are read from the left; a test stands in no other at either side.
func operation(e tree.Operation) string {
	left := e.Level()
	if left == tree.TestLevel {
		left = tree.SumLevel
	}
	return part(e.Left, left) + " " + e.Sign + " " + part(e.Right, e.Level()+1)
}

func let(e tree.Let) string {
	var binds []string
	for _, b := range e.Binds {
		binds = append(binds, b.Name.Text+" = "+expr(b.Body))
	}
	start := "let "
	if e.Recursive {
		start = "let rec "
	}
	return start + strings.Join(binds, "; ") + " in " + expr(e.Body)
}

func arms(list []tree.Arm) string {
	var texts []string
	for i, a := range list {
		last := i == len(list)-1
		texts = append(texts, "<"+strconv.Itoa(a.Tag)+">"+spaced(a.Names)+" -> "+armBody(a.Body, last))
	}
	return strings.Join(texts, "; ")
}

// armBody keeps a case at the end of an arm from taking the arms behind.
func armBody(e tree.Expr, last bool) string {
	if !last && endsInCase(e) {
		return parenthesized(e)
	}
	return expr(e)
}

func endsInCase(e tree.Expr) bool {
	switch e := e.(type) {
	case tree.Case:
		return true
	case tree.Let:
		return endsInCase(e.Body)
	case tree.Lambda:
		return endsInCase(e.Body)
	}
	return false
}

// spaced writes names with a space ahead of each.
func spaced(names []tree.Name) string {
	text := ""
	for _, name := range names {
		text += " " + name.Text
	}
	return text
}
