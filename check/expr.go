package check

import "tiltyard/api"

// typed checks an expression whose value has to be of the type that is wanted;
// another one is a fault at that offset.
func (c *checker) typed(e *api.Expr, want, at int) {
	c.value(e)
	c.need(e.Type == want, api.ErrType, at)
}

func (c *checker) index(e *api.Expr) { c.typed(e, api.TyInt, e.At) }

func (c *checker) condition(e *api.Expr) { c.typed(e, api.TyBool, e.At) }

// value checks an expression that is no statement: so it has to have a value.
func (c *checker) value(e *api.Expr) {
	switch e.Kind {
	case api.ExprInt:
		e.Type = api.TyInt
	case api.ExprFix:
		e.Type = api.TyFix
	case api.ExprBool:
		e.Type = api.TyBool
	case api.ExprNull:
		e.Type = api.TyEnt
	case api.ExprName:
		v := c.named(e.Name, sortScalar, e.At)
		e.Type, e.Place = v.kind, v.place
	case api.ExprIndex:
		array := c.named(e.Name, sortArray, e.At)
		e.Type, e.Place = array.kind, array.place
		c.index(&e.Args[0])
	case api.ExprCall:
		c.call(e)
		c.need(e.Type != 0, api.ErrType, e.At)
	case api.ExprUnary, api.ExprBoth:
		c.operation(e)
	}
}

func (c *checker) call(e *api.Expr) {
	f := c.named(e.Name, sortFunction, e.At)
	e.Type, e.Place = f.kind, f.place
	c.need(len(e.Args) == len(f.params), api.ErrCount, e.At)
	for i := range min(len(e.Args), len(f.params)) {
		c.typed(&e.Args[i], f.params[i], e.Args[i].At)
	}
}

// operation checks an operator, whether it has one operand or two: those of one
// are of the same type.
func (c *checker) operation(e *api.Expr) {
	for i := range e.Args {
		c.value(&e.Args[i])
	}
	kind, last := e.Args[0].Type, e.Args[len(e.Args)-1].Type
	c.need(kind == last && takes(e.Op, kind), api.ErrType, e.At)
	e.Type = resultType(e.Op, kind)
}

// takes tells whether an operator is for operands of that type.
func takes(op, kind int) bool {
	switch op {
	case api.OpEq, api.OpNe:
		return true
	case api.OpMod:
		return kind == api.TyInt
	case api.OpAnd, api.OpOr, api.OpNot:
		return kind == api.TyBool
	}
	return kind == api.TyInt || kind == api.TyFix
}

func resultType(op, kind int) int {
	switch op {
	case api.OpEq, api.OpNe, api.OpLt, api.OpLe, api.OpGt, api.OpGe:
		return api.TyBool
	}
	return kind
}
