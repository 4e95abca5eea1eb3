package thunk

import (
	"testing"

	"thunk/api"
	"thunk/tree"
)

// What a program means, straight by the document's words, with no machine: the
// tests hold Run against it. It counts STEPS as P6 does.

// cell is an expression that is worked out once, when it is needed first.
type cell struct {
	work  func() value
	value value
}

// value is a number, data or a function of one argument.
type value struct {
	kind  int
	n     int64
	tag   int
	parts []*cell
	call  func(*cell) value
}

const function = -1 // a kind beside api.Number and api.Data

type surroundings struct {
	name  string
	cell  *cell
	outer *surroundings
}

type noMeaning struct{}

type tooLong struct{}

type meaner struct {
	steps, limit int
}

// meaning gives what a program means, and how many STEPS it takes; ended is
// false if these are more than the limit.
func meaning(program tree.Program, limit int) (outcome api.Outcome, steps int, ended bool) {
	m := &meaner{limit: limit}
	defer func() {
		switch reason := recover().(type) {
		case nil:
		case noMeaning:
			outcome, steps, ended = api.Outcome{Kind: api.Stuck}, m.steps, true
		case tooLong:
			outcome, steps, ended = api.Outcome{}, m.steps, false
		default:
			panic(reason)
		}
	}()
	var all *surroundings
	for _, f := range program {
		all = &surroundings{f.Name.Text, &cell{}, all}
	}
	for _, f := range program {
		all.find(f.Name.Text).work = func() value { return m.function(f.Params, f.Body, all) }
	}
	main := m.force(all.find("main"))
	switch main.kind {
	case api.Number:
		return api.Outcome{Kind: api.Number, N: main.n}, m.steps, true
	case api.Data:
		return api.Outcome{Kind: api.Data, Tag: main.tag, Arity: len(main.parts)}, m.steps, true
	}
	return api.Outcome{Kind: api.Stuck}, m.steps, true
}

func (s *surroundings) find(name string) *cell {
	for ; s != nil; s = s.outer {
		if s.name == name {
			return s.cell
		}
	}
	panic("no " + name)
}

func (m *meaner) force(c *cell) value {
	if c.work != nil {
		work := c.work
		c.work = func() value { panic(tooLong{}) } // it needs itself
		c.value = work()
		c.work = nil
	}
	return c.value
}

func (m *meaner) later(e tree.Expr, around *surroundings) *cell {
	return &cell{work: func() value { return m.eval(e, around) }}
}

func (m *meaner) function(params []tree.Name, body tree.Expr, around *surroundings) value {
	if len(params) == 0 {
		return m.eval(body, around)
	}
	return value{kind: function, call: func(argument *cell) value {
		return m.function(params[1:], body, &surroundings{params[0].Text, argument, around})
	}}
}

func packer(tag, lacks int, parts []*cell) value {
	if lacks == 0 {
		return value{kind: api.Data, tag: tag, parts: parts}
	}
	return value{kind: function, call: func(part *cell) value {
		return packer(tag, lacks-1, append(parts[:len(parts):len(parts)], part))
	}}
}

func (m *meaner) eval(e tree.Expr, around *surroundings) value {
	if m.steps++; m.steps > m.limit {
		panic(tooLong{})
	}
	switch e := e.(type) {
	case tree.Use:
		return m.force(around.find(e.Name.Text))
	case tree.Number:
		return value{kind: api.Number, n: e.Value}
	case tree.Maker:
		return packer(e.Tag, e.Arity, nil)
	case tree.Lambda:
		return m.function(e.Params, e.Body, around)
	case tree.Call:
		f := m.eval(e.Function, around)
		if f.kind != function {
			panic(noMeaning{})
		}
		return f.call(m.later(e.Argument, around))
	case tree.Operation:
		left := m.number(e.Left, around)
		right := m.number(e.Right, around)
		return operate(e.Sign, left, right)
	case tree.Let:
		return m.let(e, around)
	case tree.Case:
		return m.choose(e, m.eval(e.Subject, around), around)
	}
	panic("no expression")
}

func (m *meaner) number(e tree.Expr, around *surroundings) int64 {
	v := m.eval(e, around)
	if v.kind != api.Number {
		panic(noMeaning{})
	}
	return v.n
}

func operate(sign string, left, right int64) value {
	truth := map[bool]value{true: {kind: api.Data, tag: 2}, false: {kind: api.Data, tag: 1}}
	switch sign {
	case "+":
		return value{kind: api.Number, n: left + right}
	case "-":
		return value{kind: api.Number, n: left - right}
	case "*":
		return value{kind: api.Number, n: left * right}
	case "<":
		return truth[left < right]
	case "==":
		return truth[left == right]
	}
	if right == 0 {
		panic(noMeaning{})
	}
	return value{kind: api.Number, n: left / right}
}

func (m *meaner) let(e tree.Let, around *surroundings) value {
	inner := around
	for _, b := range e.Binds {
		inner = &surroundings{b.Name.Text, &cell{}, inner}
	}
	for _, b := range e.Binds {
		seen := around
		if e.Recursive {
			seen = inner
		}
		*inner.find(b.Name.Text) = *m.later(b.Body, seen)
	}
	return m.eval(e.Body, inner)
}

func (m *meaner) choose(e tree.Case, subject value, around *surroundings) value {
	if subject.kind != api.Data {
		panic(noMeaning{})
	}
	for _, arm := range e.Arms {
		if arm.Tag != subject.tag {
			continue
		}
		if len(arm.Names) != len(subject.parts) {
			panic(noMeaning{})
		}
		for i, name := range arm.Names {
			around = &surroundings{name.Text, subject.parts[i], around}
		}
		return m.eval(arm.Body, around)
	}
	panic(noMeaning{})
}

// meaningOf reads a source, which must be a program.
func meaningOf(t *testing.T, source string, limit int) (api.Outcome, int, bool) {
	t.Helper()
	program, errno, place := read(source)
	if errno != api.OK {
		t.Fatalf("Check(%q) = %d, %d", source, errno, place)
	}
	return meaning(program, limit)
}
