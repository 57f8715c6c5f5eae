package eval

import (
	"tiltyard/api"
	"tiltyard/fix"
)

// paid evaluates an expression, and spends the unit of what asked for it.
func (f *frame) paid(e *api.Expr) int {
	value := f.value(e)
	f.spend()
	return value
}

func (f *frame) value(e *api.Expr) int {
	switch e.Kind {
	case api.ExprName:
		f.spend()
		return *f.variable(e.Place)
	case api.ExprIndex:
		index := f.paid(&e.Args[0])
		return *f.element(e.Place, index)
	case api.ExprCall:
		return f.call(e)
	case api.ExprUnary:
		return unary(e.Op, e.Type, f.paid(&e.Args[0]))
	case api.ExprBoth:
		return f.both(e)
	}
	f.spend()
	return e.Num // 0 for null
}

// each evaluates expressions from left to right.
func each(list []api.Expr, value func(*api.Expr) int) []int {
	values := make([]int, len(list))
	for i := range list {
		values[i] = value(&list[i])
	}
	return values
}

func (f *frame) call(e *api.Expr) int {
	args := each(e.Args, f.value)
	f.spend()
	switch {
	case e.Place >= 0:
		return f.function(e.Place, args)
	case e.Place == api.PlaceToFix:
		return fix.From(args[0])
	case e.Place == api.PlaceToInt:
		return fix.To(args[0])
	}
	return f.ask(-1-e.Place, args, e.Type)
}

func unary(op, kind, operand int) int {
	switch {
	case op == api.OpNot:
		return 1 - operand
	case kind == api.TyFix:
		return fix.Sub(0, operand)
	}
	return -operand
}

func (f *frame) both(e *api.Expr) int {
	left := f.value(&e.Args[0])
	switch e.Op {
	case api.OpAnd:
		return f.and(left, &e.Args[1])
	case api.OpOr:
		return f.or(left, &e.Args[1])
	}
	right := f.paid(&e.Args[1])
	if e.Op <= api.OpMod {
		return arithmetic(e.Op, e.Type, left, right)
	}
	return number(compare(e.Op, left, right))
}

func (f *frame) and(left int, right *api.Expr) int {
	f.spend()
	if left == 0 {
		f.spend()
		return 0
	}
	return f.paid(right)
}

func (f *frame) or(left int, right *api.Expr) int {
	f.spend()
	if left == 0 {
		return f.value(right)
	}
	f.spend()
	f.spend()
	return 1
}

func arithmetic(op, kind, a, b int) int {
	if b == 0 && (op == api.OpDiv || op == api.OpMod) {
		panic(trap(api.TrapDiv))
	}
	if kind == api.TyFix {
		return ofFixes(op, a, b)
	}
	return ofInts(op, a, b)
}

func ofInts(op, a, b int) int {
	switch op {
	case api.OpAdd:
		return a + b
	case api.OpSub:
		return a - b
	case api.OpMul:
		return a * b
	case api.OpDiv:
		return a / b
	}
	return a % b
}

func ofFixes(op, a, b int) int {
	switch op {
	case api.OpAdd:
		return fix.Add(a, b)
	case api.OpSub:
		return fix.Sub(a, b)
	case api.OpMul:
		return fix.Mul(a, b)
	}
	quotient, _ := fix.Div(a, b) // b is not 0
	return quotient
}

func compare(op, a, b int) bool {
	switch op {
	case api.OpEq:
		return a == b
	case api.OpNe:
		return a != b
	case api.OpLt:
		return a < b
	case api.OpLe:
		return a <= b
	case api.OpGt:
		return a > b
	}
	return a >= b
}
