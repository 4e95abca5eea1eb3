package thunk

import (
	"math/rand"
	"strconv"
	"strings"
	"testing"

	"thunk/api"
	"thunk/parse"
	"thunk/tree"
)

func TestShow(t *testing.T) {
	for _, c := range []struct{ source, want string }{
		{"main=1;", "main = 1;\n"},
		{"\n main\n=  1 ;  ", "main = 1;\n"},
		{"main=f 1;f x=x;g=f;", "main = f 1;\nf x = x;\ng = f;\n"},
		{"main=(((1)));", "main = 1;\n"},
		{"main=000+007+100;", "main = 0 + 7 + 100;\n"},
		{"main={007,09}{1 , 00};", "main = {7,9} {1,0};\n"},
		{"main=\\x  y .x;", "main = \\x y. x;\n"},
		{"main=\\x.(\\y.(x));", "main = \\x. \\y. x;\n"},
		{"main=case 1 of<02>a b->a;<3>->1;", "main = case 1 of <2> a b -> a; <3> -> 1;\n"},
		{"main=let a=1;b=2 in a;", "main = let a = 1; b = 2 in a;\n"},
		{"main=let rec a=b;b=a in a;", "main = let rec a = b; b = a in a;\n"},
		{"main=1-2*3/4+5;", "main = 1 - 2 * 3 / 4 + 5;\n"},
		{"main=1<2;", "main = 1 < 2;\n"},
		{"main=1==2;", "main = 1 == 2;\n"},
	} {
		if got := Show(c.source); got != c.want {
			t.Errorf("P3: Show(%q) = %q, want %q", c.source, got, c.want)
		}
	}
}

func TestShowParentheses(t *testing.T) {
	for _, c := range []struct{ source, want string }{
		{"(1+2)+3", "1 + 2 + 3"},
		{"1+(2+3)", "1 + (2 + 3)"},
		{"1-(2-3)", "1 - (2 - 3)"},
		{"(1*2)/3", "1 * 2 / 3"},
		{"1*(2/3)", "1 * (2 / 3)"},
		{"(1*2)+(3*4)", "1 * 2 + 3 * 4"},
		{"(1+2)*(3-4)", "(1 + 2) * (3 - 4)"},
		{"(1 2)*(3 4)", "1 2 * 3 4"},
		{"1(2*3)", "1 (2 * 3)"},
		{"(2*3)1", "(2 * 3) 1"},
		{"((1 2)3)(4 5)", "1 2 3 (4 5)"},
		{"(1)({1,0})(main)", "1 {1,0} main"},
		{"(1+2)<(3+4)", "1 + 2 < 3 + 4"},
		{"(1<2)<3", "(1 < 2) < 3"},
		{"1<(2<3)", "1 < (2 < 3)"},
		{"(1==2)==(3<4)", "(1 == 2) == (3 < 4)"},
		{"(1<2)+(3==4)", "(1 < 2) + (3 == 4)"},
		{"1(2<3)", "1 (2 < 3)"},
		{"(\\x.x)1", "(\\x. x) 1"},
		{"1(\\x.x)", "1 (\\x. x)"},
		{"1+(\\x.x)", "1 + (\\x. x)"},
		{"1<(let x=1 in x)", "1 < (let x = 1 in x)"},
		{"(case 1 of<1>->1)*2", "(case 1 of <1> -> 1) * 2"},
		{"1*(case 1 of<1>->1)", "1 * (case 1 of <1> -> 1)"},
		{"case(\\x.x)of<1>->(\\x.x)", "case \\x. x of <1> -> \\x. x"},
		{"let x=(let y=1 in y);z=(\\q.q)in(let w=1 in w)", "let x = let y = 1 in y; z = \\q. q in let w = 1 in w"},
		{"let x=(case 1 of<1>->1);y=2 in y", "let x = case 1 of <1> -> 1; y = 2 in y"},
	} {
		if got := Show("main=" + c.source + ";"); got != "main = "+c.want+";\n" {
			t.Errorf("P3: Show of %q = %q, want %q", c.source, got, c.want)
		}
	}
}

func TestShowArms(t *testing.T) {
	for _, c := range []struct{ arm, first, last string }{
		{"1", "1", "1"},
		{"case 2 of<3>->4", "(case 2 of <3> -> 4)", "case 2 of <3> -> 4"},
		{"\\x.case 2 of<3>->4", "(\\x. case 2 of <3> -> 4)", "\\x. case 2 of <3> -> 4"},
		{"let x=1 in case 2 of<3>->4", "(let x = 1 in case 2 of <3> -> 4)", "let x = 1 in case 2 of <3> -> 4"},
		{"let x=1 in \\y.let z=2 in case 2 of<3>->4", "(let x = 1 in \\y. let z = 2 in case 2 of <3> -> 4)", "let x = 1 in \\y. let z = 2 in case 2 of <3> -> 4"},
		{"\\x.(case 2 of<3>->4)", "(\\x. case 2 of <3> -> 4)", "\\x. case 2 of <3> -> 4"},
		{"\\x.x", "\\x. x", "\\x. x"},
		{"let x=(case 2 of<3>->4)in x", "let x = case 2 of <3> -> 4 in x", "let x = case 2 of <3> -> 4 in x"},
		{"1+(case 2 of<3>->4)", "1 + (case 2 of <3> -> 4)", "1 + (case 2 of <3> -> 4)"},
		{"\\x.1(case 2 of<3>->4)", "\\x. 1 (case 2 of <3> -> 4)", "\\x. 1 (case 2 of <3> -> 4)"},
	} {
		source := "main=case 1 of<1>->(" + c.arm + ");<2>->(" + c.arm + ");<3>->(" + c.arm + ");"
		want := "main = case 1 of <1> -> " + c.first + "; <2> -> " + c.first + "; <3> -> " + c.last + ";\n"
		if got := Show(source); got != want {
			t.Errorf("P3: Show(%q) = %q, want %q", source, got, want)
		}
	}
}

func TestShowOfWhatCheckRefuses(t *testing.T) {
	for _, source := range []string{"", " ", "!", "main = x;", "main = 1", "f = 1;", "main x = 1;", "main = 1; main = 2;", "main = {0,1};", "main=1;" + strings.Repeat(" ", 600)} {
		if got := Show(source); got != "" {
			t.Errorf("P3: Show(%q) = %q", source, got)
		}
	}
}

func TestShowOfLongSources(t *testing.T) {
	source := "main=1" + strings.Repeat("+1", 296) + ";"
	want := "main = 1" + strings.Repeat(" + 1", 296) + ";\n"
	if got := Show(source); got != want {
		t.Errorf("P3: Show(%q) = %q", source, got)
	}
}

// maker makes up expressions, with parentheses and blanks where they may be.
type maker struct{ random *rand.Rand }

func (m maker) blank() string { return []string{" ", "\n", "  ", " \n "}[m.random.Intn(4)] }

// tokens sets blanks between, of one byte or more.
func (m maker) tokens(list ...string) string {
	text := ""
	for _, token := range list {
		text += token + m.blank()
	}
	return text
}

func (m maker) expr(depth int) string {
	if depth == 0 || m.random.Intn(8) == 0 {
		return []string{"x", "main", "07", "12", "{01,2}", "(y)"}[m.random.Intn(6)]
	}
	sub := func() string { return "(" + m.expr(depth-1) + ")" }
	open := func() string {
		if m.random.Intn(2) == 0 {
			return sub()
		}
		return m.expr(depth - 1)
	}
	switch m.random.Intn(9) {
	case 0:
		return m.tokens("let", "x", "=", open(), ";", "y", "=", open(), "in", open())
	case 1:
		return m.tokens("let", "rec", "x", "=", open(), "in", open())
	case 2:
		return m.tokens("case", open(), "of", "<", "02", ">", "x", "y", "->", open(), ";", "<", "3", ">", "->", open())
	case 3:
		return m.tokens("case", open(), "of", "<", "2", ">", "->", open())
	case 4:
		return m.tokens("\\", "x", "z", ".", open())
	case 5:
		return m.tokens(sub(), sub(), sub())
	default:
		signs := []string{"+", "-", "*", "/", "<", "=="}
		return m.tokens(sub(), signs[m.random.Intn(len(signs))], sub())
	}
}

// full writes an expression with parentheses round every part.
func full(e tree.Expr) string {
	switch e := e.(type) {
	case tree.Use:
		return e.Name.Text
	case tree.Number:
		return strconv.FormatInt(e.Value, 10)
	case tree.Maker:
		return "{" + strconv.Itoa(e.Tag) + " " + strconv.Itoa(e.Arity) + "}"
	case tree.Call:
		return "(call " + full(e.Function) + " " + full(e.Argument) + ")"
	case tree.Operation:
		return "(" + e.Sign + " " + full(e.Left) + " " + full(e.Right) + ")"
	case tree.Let:
		text := "(let " + strconv.FormatBool(e.Recursive)
		for _, b := range e.Binds {
			text += " (" + b.Name.Text + " " + full(b.Body) + ")"
		}
		return text + " " + full(e.Body) + ")"
	case tree.Case:
		text := "(case " + full(e.Subject)
		for _, a := range e.Arms {
			text += " (" + strconv.Itoa(a.Tag) + fullNames(a.Names) + " " + full(a.Body) + ")"
		}
		return text + ")"
	case tree.Lambda:
		return "(lambda" + fullNames(e.Params) + " " + full(e.Body) + ")"
	}
	return "?"
}

func fullNames(names []tree.Name) string {
	text := ""
	for _, name := range names {
		text += " " + name.Text
	}
	return text + " :"
}

func fullProgram(source string) string {
	program, _, ok := parse.Program(source)
	if !ok {
		return "none"
	}
	text := ""
	for _, f := range program {
		text += f.Name.Text + fullNames(f.Params) + full(f.Body) + "\n"
	}
	return text
}

// withoutPairs gives the text once for each pair of parentheses, without it.
func withoutPairs(text string) []string {
	var open []int
	var list []string
	for i, r := range text {
		if r == '(' {
			open = append(open, i)
		} else if r == ')' {
			start := open[len(open)-1]
			open = open[:len(open)-1]
			list = append(list, text[:start]+" "+text[start+1:i]+" "+text[i+1:])
		}
	}
	return list
}

// TestShowKeepsTheProgram: what is shown reads as the source does, is shown as
// it is, and has no pair of parentheses without which it would read the same.
func TestShowKeepsTheProgram(t *testing.T) {
	m := maker{rand.New(rand.NewSource(4))}
	tried, pairs := 0, 0
	for range 20000 {
		source := "x = 1; y a = 2; main = " + m.expr(1+m.random.Intn(4)) + ";"
		if errno, place := Check(source); errno != api.OK {
			if errno != api.ErrLong {
				t.Fatalf("Check(%q) = %d, %d", source, errno, place)
			}
			continue
		}
		tried++
		shown := Show(source)
		if fullProgram(shown) != fullProgram(source) {
			t.Fatalf("P3: Show(%q) = %q, another program", source, shown)
		}
		if again := Show(shown); len(shown) <= api.MaxSource && again != shown {
			t.Fatalf("P3: Show(%q) = %q", shown, again)
		}
		for _, less := range withoutPairs(shown) {
			pairs++
			if fullProgram(less) == fullProgram(shown) {
				t.Fatalf("P3: Show(%q) = %q, and %q is the same", source, shown, less)
			}
		}
	}
	if tried < 5000 || pairs < 5000 {
		t.Errorf("too few programs: %d with %d pairs", tried, pairs)
	}
}

// TestShowSpaces holds the spaces of what is shown, token for token.
func TestShowSpaces(t *testing.T) {
	m := maker{rand.New(rand.NewSource(5))}
	for range 2000 {
		shown := Show("x = 1; y a = 2; main = " + m.expr(3) + ";")
		for _, wrong := range []string{"  ", "( ", " )", "{ ", " }", " ,", ", ", " ;", " .", "\\ ", " >", " \n"} {
			if strings.Contains(shown, wrong) {
				t.Fatalf("P3: %q has %q", shown, wrong)
			}
		}
		lines := strings.SplitAfter(shown, "\n")
		if shown != "" && (len(lines) != 4 || lines[3] != "") {
			t.Fatalf("P3: %q has not a line for each function", shown)
		}
	}
}
