// Package thunk: a lazy language, and a machine for it in a small heap: see DOC.md.
package thunk

import (
	"thunk/api"
	"thunk/compile"
	"thunk/machine"
	"thunk/parse"
	"thunk/scope"
	"thunk/show"
	"thunk/tree"
)

// Check tells whether a source is a program (P2).
func Check(source string) (api.Errno, int) {
	_, errno, place := read(source)
	return errno, place
}

// Show writes a program in one way (P3).
func Show(source string) string {
	program, errno, _ := read(source)
	if errno != api.OK {
		return ""
	}
	return show.Program(program)
}

// Run tells what a program means, if heap and fuel are enough (P4).
func Run(source string, heap int, fuel int) (api.Outcome, api.Errno) {
	program, errno, _ := read(source)
	if errno != api.OK {
		return api.Outcome{}, errno
	}
	heap = min(max(heap, 0), api.MaxHeap)
	fuel = min(max(fuel, 0), api.MaxFuel)
	return machine.Run(compile.Program(program), heap, fuel), api.OK
}

// read gives the program of a source that has no error.
func read(source string) (tree.Program, api.Errno, int) {
	if len(source) > api.MaxSource {
		return nil, api.ErrLong, 0
	}
	program, place, ok := parse.Program(source)
	if !ok {
		return nil, api.ErrText, place
	}
	if place, found := scope.FirstWrong(program); found {
		return nil, api.ErrName, place
	}
	if !scope.HasMain(program) {
		return nil, api.ErrMain, len(source)
	}
	return program, api.OK, 0
}
