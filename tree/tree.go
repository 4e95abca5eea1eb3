// Package tree: a program as it was read. Parentheses leave no trace in it.
package tree

// Level tells by which rule of the grammar an expression is read: the higher,
// the more places take it without parentheses.
type Level int

const (
	OpenLevel Level = iota // let, case and \, which reach as far as they can
	TestLevel
	SumLevel
	ProductLevel
	CallLevel
	AtomLevel
)

// Program has a function for each line of the source, in its order.
type Program []Function

// Function is a line of a program.
type Function struct {
	Name   Name
	Params []Name
	Body   Expr
}

// Name is a name at its place in the source.
type Name struct {
	Text  string
	Place int
}

// Expr is one of the types below.
type Expr interface {
	Level() Level
}

// Use is a name in an expression.
type Use struct {
	Name Name
}

// Number is a number that stands in the source.
type Number struct {
	Value int64
}

// Maker makes data, from as many parts as its arity says.
type Maker struct {
	Tag, Arity int
}

// Call gives a function one argument; of several, each has a Call of its own.
type Call struct {
	Function, Argument Expr
}

// Operation has one of the signs + - * / < == between two expressions.
type Operation struct {
	Sign        string
	Left, Right Expr
}

// Let names expressions for another one, its body.
type Let struct {
	Recursive bool
	Binds     []Bind
	Body      Expr
}

// Bind is a name that a Let gives to an expression.
type Bind struct {
	Name Name
	Body Expr
}

// Case goes on with the arm that has the tag of its subject.
type Case struct {
	Subject Expr
	Arms    []Arm
}

// Arm is what a Case does at one tag.
type Arm struct {
	Tag   int
	Names []Name
	Body  Expr
}

// Lambda is a function without a name.
type Lambda struct {
	Params []Name
	Body   Expr
}

func (Use) Level() Level { return AtomLevel }

func (Number) Level() Level { return AtomLevel }

func (Maker) Level() Level { return AtomLevel }

func (Call) Level() Level { return CallLevel }

func (Let) Level() Level { return OpenLevel }

func (Case) Level() Level { return OpenLevel }

func (Lambda) Level() Level { return OpenLevel }

// Level of an operation hangs on its sign.
func (o Operation) Level() Level {
	switch o.Sign {
	case "*", "/":
		return ProductLevel
	case "+", "-":
		return SumLevel
	}
	return TestLevel
}

// Names gives the names of the functions, in their order.
func (p Program) Names() []string {
	var list []string
	for _, f := range p {
		list = append(list, f.Name.Text)
	}
	return list
}

// Names gives the names that a Let binds, in their order.
func (l Let) Names() []string {
	var list []string
	for _, b := range l.Binds {
		list = append(list, b.Name.Text)
	}
	return list
}

// Texts gives names without their places.
func Texts(names []Name) []string {
	var list []string
	for _, name := range names {
		list = append(list, name.Text)
	}
	return list
}
