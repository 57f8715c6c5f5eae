package fold

import (
	"tiltyard/api"
	"tiltyard/fix"
)

func (f *folder) exprs(list []api.Expr) {
	for i := range list {
		f.expr(&list[i])
	}
}

func (f *folder) expr(e *api.Expr) {
	f.exprs(e.Args)
	switch e.Kind {
	case api.ExprUnary:
		f.unary(e)
	case api.ExprBoth:
		f.both(e)
	case api.ExprCall:
		convert(e)
	}
}

func isConstant(e api.Expr) bool {
	switch e.Kind {
	case api.ExprInt, api.ExprFix, api.ExprBool, api.ExprNull:
		return true
	}
	return false
}

// become makes a constant of an expression, unless the value has none: no tree
// has a negative number.
func become(e *api.Expr, kind, value int) {
	if value >= 0 {
		*e = api.Expr{Kind: kind, Num: value, At: e.At}
	}
}

// numbers is the arithmetic of constants of that kind.
func (f *folder) numbers(kind int) arithmetic {
	if kind == api.ExprFix {
		return f.fixes
	}
	return f.ints
}

func (f *folder) unary(e *api.Expr) {
	operand := e.Args[0]
	switch {
	case isConstant(operand) && e.Op == api.OpNeg:
		become(e, operand.Kind, f.numbers(operand.Kind).negate(operand.Num))
	case isConstant(operand):
		become(e, api.ExprBool, 1-operand.Num)
	case e.Op == api.OpNot && operand.Op == api.OpNot:
		*e = operand.Args[0]
	}
}

func (f *folder) both(e *api.Expr) {
	switch e.Op {
	case api.OpAnd, api.OpOr:
		decide(e)
		return
	}
	left, right := e.Args[0], e.Args[1]
	if !isConstant(left) || !isConstant(right) || traps(e.Op, right.Num) {
		return
	}
	if e.Op > api.OpMod {
		become(e, api.ExprBool, number(compare(e.Op, left.Num, right.Num)))
		return
	}
	become(e, left.Kind, f.numbers(left.Kind).operation(e.Op)(left.Num, right.Num))
}

// decide leaves of && or || what alone decides of its value. The true of an &&
// and the false of an || decide nothing; otherwise a left operand that is known
// is the value itself.
func decide(e *api.Expr) {
	left, right, idle := e.Args[0], e.Args[1], number(e.Op == api.OpAnd)
	switch {
	case isConstant(left) && left.Num == idle:
		*e = right
	case isConstant(left):
		*e = left
	case isConstant(right) && right.Num == idle:
		*e = left
	}
}

// convert works out a call of tofix or toint.
func convert(e *api.Expr) {
	switch {
	case e.Place == api.PlaceToFix && isConstant(e.Args[0]):
		become(e, api.ExprFix, fix.From(e.Args[0].Num))
	case e.Place == api.PlaceToInt && isConstant(e.Args[0]):
		become(e, api.ExprInt, fix.To(e.Args[0].Num))
	}
}
