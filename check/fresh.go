package check

import (
	"slices"
	"strings"

	"tiltyard/api"
)

// fresh is a tree of its own memory, without what an earlier check told of it.
func fresh(m api.Mod) api.Mod {
	return api.Mod{Vars: each(m.Vars, freshVar), Funcs: each(m.Funcs, freshFunc)}
}

// each is a new list of what is made of the parts of another one.
func each[T any](list []T, made func(T) T) []T {
	list = slices.Clone(list)
	for i, part := range list {
		list[i] = made(part)
	}
	return list
}

func freshVar(v api.Var) api.Var {
	v.Name = strings.Clone(v.Name)
	return v
}

func freshFunc(f api.Func) api.Func {
	f.Name, f.Locals = strings.Clone(f.Name), nil
	f.Params, f.Body = each(f.Params, freshParam), each(f.Body, freshStmt)
	return f
}

func freshParam(p api.Param) api.Param {
	p.Name = strings.Clone(p.Name)
	return p
}

func freshStmt(s api.Stmt) api.Stmt {
	s.Name, s.Place = strings.Clone(s.Name), 0
	s.Exprs, s.Body, s.Else = each(s.Exprs, freshExpr), each(s.Body, freshStmt), each(s.Else, freshStmt)
	return s
}

func freshExpr(e api.Expr) api.Expr {
	e.Name, e.Type, e.Place = strings.Clone(e.Name), 0, 0
	e.Args = each(e.Args, freshExpr)
	return e
}
