package compile

import (
	"slices"

	"thunk/tree"
)

// free gives the names that an expression uses and does not name itself, each
// of them once, in the order in which they are used first. Names of functions
// are among them.
func free(e tree.Expr) []string {
	switch e := e.(type) {
	case tree.Use:
		return []string{e.Name.Text}
	case tree.Call:
		return union(free(e.Function), free(e.Argument))
	case tree.Operation:
		return union(free(e.Left), free(e.Right))
	case tree.Let:
		return freeOfLet(e)
	case tree.Case:
		return union(free(e.Subject), freeOfArms(e.Arms))
	case tree.Lambda:
		return without(free(e.Body), tree.Texts(e.Params))
	}
	return nil
}

func freeOfLet(e tree.Let) []string {
	bound := e.Names()
	var list []string
	for _, b := range e.Binds {
		list = union(list, free(b.Body))
	}
	if e.Recursive {
		list = without(list, bound)
	}
	return union(list, without(free(e.Body), bound))
}

func freeOfArms(arms []tree.Arm) []string {
	var list []string
	for _, arm := range arms {
		list = union(list, without(free(arm.Body), tree.Texts(arm.Names)))
	}
	return list
}

func union(list, more []string) []string {
	return slices.Concat(list, without(more, list))
}

func without(list, gone []string) []string {
	return slices.DeleteFunc(slices.Clone(list), func(name string) bool {
		return slices.Contains(gone, name)
	})
}
