package printer

import (
	"strconv"

	"tiltyard/api"
	"tiltyard/fix"
)

// scalar is how a type is written, and how its values are.
type scalar struct {
	name string
	text func(value int) string
}

func scalars() map[int]scalar {
	return map[int]scalar{
		api.TyInt:  {"int", strconv.Itoa},
		api.TyFix:  {"fix", fix.Print},
		api.TyBool: {"bool", truth},
		api.TyEnt:  {"ent", func(int) string { return "null" }},
	}
}

func truth(n int) string {
	if n == 0 {
		return "false"
	}
	return "true"
}

// The ranks of expressions: what binds more strongly has the greater one.
const (
	rankOr = iota
	rankAnd
	rankCompare
	rankSum
	rankTerm
	rankOne // that of all but operators with two operands
)

// operator is how one is written, and the rank of an expression with it.
type operator struct {
	text string
	rank int
}

func operators() map[int]operator {
	return map[int]operator{
		api.OpAdd: {"+", rankSum},
		api.OpSub: {"-", rankSum},
		api.OpMul: {"*", rankTerm},
		api.OpDiv: {"/", rankTerm},
		api.OpMod: {"%", rankTerm},
		api.OpEq:  {"==", rankCompare},
		api.OpNe:  {"!=", rankCompare},
		api.OpLt:  {"<", rankCompare},
		api.OpLe:  {"<=", rankCompare},
		api.OpGt:  {">", rankCompare},
		api.OpGe:  {">=", rankCompare},
		api.OpAnd: {"&&", rankAnd},
		api.OpOr:  {"||", rankOr},
		api.OpNeg: {"-", rankOne},
		api.OpNot: {"!", rankOne},
	}
}

// writer writes the text of a valid tree, but not much more of it than a source
// may have: it stops where what is refused would only cost time and memory.
type writer struct {
	text      []byte
	blocks    int // those that are open
	scalars   map[int]scalar
	operators map[int]operator
}

func newWriter() *writer { return &writer{scalars: scalars(), operators: operators()} }

// full tells whether the text is longer than a source.
func (w *writer) full() bool { return len(w.text) > api.MaxSource }

func (w *writer) put(pieces ...string) {
	for _, piece := range pieces {
		if !w.full() {
			w.text = append(w.text, piece...)
		}
	}
}

// begin begins a line.
func (w *writer) begin() {
	for i := 0; i < w.blocks && !w.full(); i++ {
		w.put("\t")
	}
}

func (w *writer) mod(m api.Mod) {
	for _, v := range m.Vars {
		w.variable(v)
	}
	for _, f := range m.Funcs {
		w.function(f)
	}
}

func (w *writer) variable(v api.Var) {
	kind := w.scalars[v.Type]
	w.put("var ", v.Name, ": ")
	if v.Size > 0 {
		w.put("[", strconv.Itoa(v.Size), "] ")
	}
	w.put(kind.name)
	if v.Value != 0 {
		w.put(" = ", kind.text(v.Value))
	}
	w.put(";\n")
}

func (w *writer) function(f api.Func) {
	w.put("fn ", f.Name)
	parenthesized(w, f.Params, func(p api.Param) { w.put(p.Name, ": ", w.scalars[p.Type].name) })
	if f.Type != 0 {
		w.put(": ", w.scalars[f.Type].name)
	}
	w.block(f.Body)
	w.put("\n")
}

// parenthesized writes a list with commas in parentheses.
func parenthesized[T any](w *writer, list []T, write func(T)) {
	w.put("(")
	for i, part := range list {
		if i > 0 {
			w.put(", ")
		}
		write(part)
	}
	w.put(")")
}

// block goes on with a line, and leaves the one with its closing brace open.
func (w *writer) block(body []api.Stmt) {
	w.put(" {\n")
	w.blocks++
	for _, s := range body {
		w.begin()
		w.stmt(s)
		w.put("\n")
	}
	w.blocks--
	w.begin()
	w.put("}")
}

// stmt leaves the ends of the statement's first and last line to whoever asked.
func (w *writer) stmt(s api.Stmt) {
	if w.full() {
		return
	}
	switch s.Kind {
	case api.StmtIf:
		w.choice(s)
		return
	case api.StmtWhile:
		w.put("while ")
		w.expr(s.Exprs[0])
		w.block(s.Body)
		return
	case api.StmtLet:
		w.put("let ", s.Name, ": ", w.scalars[s.Type].name, " = ")
		w.expr(s.Exprs[0])
	case api.StmtSet:
		w.put(s.Name, " = ")
		w.expr(s.Exprs[0])
	case api.StmtPut:
		w.element(s.Name, s.Exprs[0])
		w.put(" = ")
		w.expr(s.Exprs[1])
	case api.StmtCall:
		w.expr(s.Exprs[0])
	case api.StmtReturn:
		w.put("return")
		for _, e := range s.Exprs {
			w.put(" ")
			w.expr(e)
		}
	}
	w.put(";")
}

func (w *writer) choice(s api.Stmt) {
	w.put("if ")
	w.expr(s.Exprs[0])
	w.block(s.Body)
	switch {
	case len(s.Else) == 0:
	case len(s.Else) == 1 && s.Else[0].Kind == api.StmtIf:
		w.put(" else ")
		w.choice(s.Else[0])
	default:
		w.put(" else")
		w.block(s.Else)
	}
}

func (w *writer) element(name string, index api.Expr) {
	w.put(name, "[")
	w.expr(index)
	w.put("]")
}

func (w *writer) expr(e api.Expr) {
	if w.full() {
		return
	}
	switch e.Kind {
	case api.ExprInt:
		w.put(w.scalars[api.TyInt].text(e.Num))
	case api.ExprFix:
		w.put(w.scalars[api.TyFix].text(e.Num))
	case api.ExprBool:
		w.put(w.scalars[api.TyBool].text(e.Num))
	case api.ExprNull:
		w.put(w.scalars[api.TyEnt].text(e.Num))
	case api.ExprName:
		w.put(e.Name)
	case api.ExprIndex:
		w.element(e.Name, e.Args[0])
	case api.ExprCall:
		w.put(e.Name)
		parenthesized(w, e.Args, w.expr)
	case api.ExprUnary:
		w.put(w.operators[e.Op].text)
		w.operand(e.Args[0], rankOne)
	case api.ExprBoth:
		w.both(e)
	}
}

func (w *writer) both(e api.Expr) {
	sign := w.operators[e.Op]
	least := sign.rank
	// Comparisons do not follow each other, as other operators of a rank do.
	if sign.rank == rankCompare {
		least++
	}
	w.operand(e.Args[0], least)
	w.put(" ", sign.text, " ")
	w.operand(e.Args[1], sign.rank+1)
}

// operand writes an expression where one of at least that rank is read, others
// only in parentheses.
func (w *writer) operand(e api.Expr, least int) {
	if w.rank(e) >= least {
		w.expr(e)
		return
	}
	w.put("(")
	w.expr(e)
	w.put(")")
}

func (w *writer) rank(e api.Expr) int {
	if e.Kind != api.ExprBoth {
		return rankOne
	}
	return w.operators[e.Op].rank
}
