package thunk

import (
	"math/rand"
	"strconv"
	"strings"
)

// sort tells what an expression that is made up is to mean, so that not all of
// them are Stuck at once.
type sort int

const (
	aNumber sort = iota
	aTruth
	aList   // {1,0}, or {2,2} of a number and a list
	aMapper // a function from a number to a number
	aHolder // {3,1} of a function from a list to a number
	sorts
)

type known struct {
	name string
	sort sort
}

// writer makes up programs.
type writer struct {
	random *rand.Rand
	wrong  int // of a hundred expressions, how many are of any sort
	lines  [][]sort
	helped bool
}

func (w *writer) fresh() string {
	// Few names, so that they hide one another.
	return []string{"a", "b", "c", "d", "x", "y", "z", "f0", "f1"}[w.random.Intn(9)]
}

func (w *writer) pick(list ...func() string) string { return list[w.random.Intn(len(list))]() }

func (w *writer) number() string {
	return strconv.Itoa([]int{0, 0, 1, 1, 2, 3, 7, 999999999}[w.random.Intn(8)])
}

// helpers are lines that go on for a while and end, if their arguments do.
const helpers = `up n=case n<1 of<2>->{1,0};<1>->{2,2}n(up(n-1));sum l=case l of<1>->0;<2>h t->h+sum t;map f l=case l of<1>->{1,0};<2>h t->{2,2}(f h)(map f t);`

// program makes up functions f0, f1, .. of parameters of given sorts that give
// numbers, and main; some programs have the helpers beside.
func (w *writer) program() string {
	text := ""
	w.helped = w.random.Intn(2) == 0
	if w.helped {
		text = helpers
	}
	w.lines = make([][]sort, w.random.Intn(4))
	for i := range w.lines {
		w.lines[i] = make([]sort, w.random.Intn(4))
		for j := range w.lines[i] {
			w.lines[i][j] = sort(w.random.Intn(int(sorts)))
		}
	}
	for i, params := range w.lines {
		names := ""
		var around []known
		for j, s := range params {
			name := string(rune('p' + j))
			names += " " + name
			around = append(around, known{name, s})
		}
		text += "f" + strconv.Itoa(i) + names + "=" + w.expr(aNumber, 2, around) + ";"
	}
	result := aNumber
	if w.random.Intn(6) == 0 {
		result = sort(w.random.Intn(int(sorts)))
	}
	return text + "main=" + w.expr(result, 2+w.random.Intn(3), nil) + ";"
}

func (w *writer) expr(s sort, depth int, around []known) string {
	if w.random.Intn(100) < w.wrong {
		s = sort(w.random.Intn(int(sorts)))
	}
	if depth <= 0 || w.random.Intn(5) == 0 {
		return w.leaf(s, around)
	}
	switch w.random.Intn(7) {
	case 0:
		return w.let(s, depth, around)
	case 1:
		return w.choice(s, depth, around)
	case 2:
		return w.listChoice(s, depth, around)
	case 3:
		return w.lambdaCall(s, depth, around)
	}
	return w.of(s, depth, around)
}

func (w *writer) leaf(s sort, around []known) string {
	var fitting []string
	for _, k := range around {
		if k.sort == s && !w.hidden(k, around) {
			fitting = append(fitting, k.name)
		}
	}
	if len(fitting) > 0 && w.random.Intn(5) > 0 {
		return fitting[w.random.Intn(len(fitting))]
	}
	switch s {
	case aTruth:
		return w.pick(func() string { return "{1,0}" }, func() string { return "{2,0}" })
	case aList:
		return w.pick(func() string { return "{1,0}" }, func() string { return "({2,2} " + w.number() + " {1,0})" })
	case aMapper:
		return w.pick(func() string { return `(\x.x+1)` }, func() string { return `(\x y.x*y)2` }, func() string { return `(\x.1/x)` })
	case aHolder:
		return w.pick(func() string { return `({3,1}(\l.5))` }, func() string { return `({3,1}(\l.case l of<1>->0;<2>h t->h))` })
	}
	return w.number()
}

// hidden tells whether another name that is alike stands nearer.
func (w *writer) hidden(k known, around []known) bool {
	for i := len(around) - 1; ; i-- {
		if around[i].name == k.name {
			return around[i] != k
		}
	}
}

func (w *writer) let(s sort, depth int, around []known) string {
	first, second := w.fresh(), w.fresh()
	sortOne, sortTwo := sort(w.random.Intn(int(sorts))), sort(w.random.Intn(int(sorts)))
	binds := []known{{first, sortOne}}
	if first != second {
		binds = append(binds, known{second, sortTwo})
	}
	inner := append(around[:len(around):len(around)], binds...)
	seen, rec := around, ""
	if w.random.Intn(2) == 0 {
		seen, rec = inner, "rec "
	}
	var texts []string
	for _, b := range binds {
		texts = append(texts, b.name+"="+w.expr(b.sort, depth-1, seen))
	}
	return "(let " + rec + strings.Join(texts, ";") + " in " + w.expr(s, depth-1, inner) + ")"
}

func (w *writer) choice(s sort, depth int, around []known) string {
	return "(case " + w.expr(aTruth, depth-1, around) + " of<2>->" + w.expr(s, depth-1, around) + ";<1>->" + w.expr(s, depth-1, around) + ")"
}

func (w *writer) listChoice(s sort, depth int, around []known) string {
	if w.random.Intn(4) == 0 {
		name := w.fresh()
		inner := append(around[:len(around):len(around)], known{name, aNumber})
		return "(case " + w.expr(aHolder, depth-1, around) + " of<3>g->let " + name + "=g " + w.expr(aList, 0, around) + " in " + w.expr(s, depth-1, inner) + ")"
	}
	inner := append(around[:len(around):len(around)], known{"h", aNumber}, known{"t", aList})
	return "(case " + w.expr(aList, depth-1, around) + " of<1>->" + w.expr(s, depth-1, around) + ";<2>h t->" + w.expr(s, depth-1, inner) + ")"
}

func (w *writer) lambdaCall(s sort, depth int, around []known) string {
	name, other := w.fresh(), "v"
	one, two := sort(w.random.Intn(int(sorts))), sort(w.random.Intn(int(sorts)))
	inner := append(around[:len(around):len(around)], known{name, one}, known{other, two})
	return `((\` + name + " " + other + "." + w.expr(s, depth-1, inner) + ")" + w.part(one, depth-1, around) + w.part(two, depth-1, around) + ")"
}

// part is an expression that may stand behind another one in a call.
func (w *writer) part(s sort, depth int, around []known) string {
	return "(" + w.expr(s, depth, around) + ")"
}

// of makes what only this sort has.
func (w *writer) of(s sort, depth int, around []known) string {
	number := func() string { return w.part(aNumber, depth-1, around) }
	if w.helped && w.random.Intn(2) == 0 {
		switch s {
		case aNumber:
			return "(sum" + w.part(aList, depth-1, around) + ")"
		case aList:
			return w.pick(func() string { return "(up " + strconv.Itoa(w.random.Intn(6)) + ")" }, func() string { return "(map" + w.part(aMapper, depth-1, around) + w.part(aList, depth-1, around) + ")" })
		}
	}
	switch s {
	case aTruth:
		return "(" + number() + []string{"<", "=="}[w.random.Intn(2)] + number() + ")"
	case aList:
		return "({2,2}" + number() + w.part(aList, depth-1, around) + ")"
	case aMapper:
		name := w.fresh()
		inner := append(around[:len(around):len(around)], known{name, aNumber})
		return `(\` + name + "." + w.expr(aNumber, depth-1, inner) + ")"
	case aHolder:
		inner := append(around[:len(around):len(around)], known{"l", aList})
		return `({3,1}(\l.` + w.expr(aNumber, depth-1, inner) + "))"
	}
	if i := w.random.Intn(5); i < len(w.lines) {
		return w.lineCall(i, depth, around)
	}
	if w.random.Intn(3) == 0 {
		return "(" + w.part(aMapper, depth-1, around) + number() + ")"
	}
	return "(" + number() + []string{"+", "-", "*", "/"}[w.random.Intn(4)] + number() + ")"
}

func (w *writer) lineCall(i, depth int, around []known) string {
	text := "(f" + strconv.Itoa(i)
	for _, s := range w.lines[i] {
		text += w.part(s, depth-1, around)
	}
	return text + ")"
}
