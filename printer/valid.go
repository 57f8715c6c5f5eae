package printer

import (
	"slices"

	"tiltyard/api"
	"tiltyard/token"
)

// A rule tells of a number, or of how many parts a list has, whether parse
// could have answered it there.
type rule func(n int) bool

func within(least, most int) rule {
	return func(n int) bool { return least <= n && n <= most }
}

func only(want int) rule { return within(want, want) }

// exprShape has a rule for each field of a kind of expression.
type exprShape struct {
	name          func(string) bool
	op, num, args rule
}

// stmtShape has a rule for each field of a kind of statement: scalar is that of
// its type, otherwise that of its else.
type stmtShape struct {
	name                           func(string) bool
	scalar, exprs, body, otherwise rule
}

// judge tells of the parts of a tree whether parse could have answered them,
// but for their levels.
type judge struct {
	exprs map[int]exprShape
	stmts map[int]stmtShape
}

func newJudge() *judge { return &judge{exprs: exprShapes(), stmts: stmtShapes()} }

func exprShapes() map[int]exprShape {
	none, fromZero := only(0), within(0, api.MaxInt)
	return map[int]exprShape{
		api.ExprInt:   {unnamed, none, fromZero, none},
		api.ExprFix:   {unnamed, none, fromZero, none},
		api.ExprBool:  {unnamed, none, within(0, 1), none},
		api.ExprNull:  {unnamed, none, none, none},
		api.ExprName:  {token.Name, none, none, none},
		api.ExprIndex: {token.Name, none, none, only(1)},
		api.ExprCall:  {token.Name, none, none, fromZero},
		api.ExprUnary: {unnamed, within(api.OpNeg, api.OpNot), none, only(1)},
		api.ExprBoth:  {unnamed, within(api.OpAdd, api.OpOr), none, only(2)},
	}
}

func stmtShapes() map[int]stmtShape {
	none, one, block := only(0), only(1), within(0, api.MaxBody)
	return map[int]stmtShape{
		api.StmtLet:    {token.Name, scalarType, one, none, none},
		api.StmtSet:    {token.Name, none, one, none, none},
		api.StmtPut:    {token.Name, none, only(2), none, none},
		api.StmtIf:     {unnamed, none, one, block, block},
		api.StmtWhile:  {unnamed, none, one, block, none},
		api.StmtReturn: {unnamed, none, within(0, 1), none, none},
		api.StmtCall:   {unnamed, none, one, none, none},
	}
}

func unnamed(name string) bool { return name == "" }

func scalarType(n int) bool { return within(api.TyInt, api.TyEnt)(n) }

// each tells whether all parts of a list are valid.
func each[T any](list []T, valid func(T) bool) bool {
	return !slices.ContainsFunc(list, func(part T) bool { return !valid(part) })
}

func (j *judge) mod(m api.Mod) bool {
	// A list that is too long is not gone through.
	if len(m.Vars) > api.MaxVars || len(m.Funcs) > api.MaxFuncs {
		return false
	}
	return each(m.Vars, variable) && each(m.Funcs, j.function)
}

func variable(v api.Var) bool {
	return token.Name(v.Name) && scalarType(v.Type) && within(0, api.MaxArray)(v.Size) && values(v)(v.Value)
}

// values is the rule of what a variable may begin with.
func values(v api.Var) rule {
	if v.Size > 0 {
		return only(0)
	}
	switch v.Type {
	case api.TyInt, api.TyFix:
		// A sign and a number: no number is as great as MinInt without its sign.
		return within(-api.MaxInt, api.MaxInt)
	case api.TyBool:
		return within(0, 1)
	}
	return only(0)
}

func (j *judge) function(f api.Func) bool {
	if !token.Name(f.Name) || !within(0, api.TyEnt)(f.Type) || len(f.Params) > api.MaxParams || len(f.Body) > api.MaxBody {
		return false
	}
	return each(f.Params, parameter) && each(f.Body, j.stmt)
}

func parameter(p api.Param) bool { return token.Name(p.Name) && scalarType(p.Type) }

func (j *judge) stmt(s api.Stmt) bool {
	shape, known := j.stmts[s.Kind]
	if !known || !shape.name(s.Name) || !shape.scalar(s.Type) {
		return false
	}
	if !shape.exprs(len(s.Exprs)) || !shape.body(len(s.Body)) || !shape.otherwise(len(s.Else)) {
		return false
	}
	if s.Kind == api.StmtCall && s.Exprs[0].Kind != api.ExprCall {
		return false
	}
	return each(s.Exprs, j.expr) && each(s.Body, j.stmt) && each(s.Else, j.stmt)
}

func (j *judge) expr(e api.Expr) bool {
	shape, known := j.exprs[e.Kind]
	if !known || !shape.name(e.Name) || !shape.op(e.Op) || !shape.num(e.Num) || !shape.args(len(e.Args)) {
		return false
	}
	return each(e.Args, j.expr)
}
