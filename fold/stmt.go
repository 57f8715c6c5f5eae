package fold

import (
	"slices"

	"tiltyard/api"
)

func (f *folder) block(list []api.Stmt) []api.Stmt {
	simple := []api.Stmt{}
	for _, s := range list {
		simple = append(simple, f.stmt(s)...)
	}
	return reachable(simple)
}

// stmt answers the statements that a statement comes to.
func (f *folder) stmt(s api.Stmt) []api.Stmt {
	f.exprs(s.Exprs)
	s.Body, s.Else = f.block(s.Body), f.block(s.Else)
	switch {
	case s.Kind == api.StmtIf && isConstant(s.Exprs[0]):
		// A let would be there for what follows, too.
		if way := chosen(s); !slices.ContainsFunc(way, isLet) {
			return way
		}
	case s.Kind == api.StmtWhile && isConstant(s.Exprs[0]) && s.Exprs[0].Num == 0:
		return nil
	}
	return []api.Stmt{s}
}

// chosen is the block that an if with a constant condition executes.
func chosen(s api.Stmt) []api.Stmt {
	if s.Exprs[0].Num == 0 {
		return s.Else
	}
	return s.Body
}

func isLet(s api.Stmt) bool { return s.Kind == api.StmtLet }

// reachable leaves out what is behind a statement that always returns.
func reachable(list []api.Stmt) []api.Stmt {
	if i := slices.IndexFunc(list, alwaysReturns); i >= 0 {
		return list[:i+1]
	}
	return list
}

// alwaysReturns tells of a statement whose blocks have nothing behind what
// returns: so only their last statements count.
func alwaysReturns(s api.Stmt) bool {
	return s.Kind == api.StmtReturn || s.Kind == api.StmtIf && endsReturning(s.Body) && endsReturning(s.Else)
}

func endsReturning(list []api.Stmt) bool {
	return len(list) > 0 && alwaysReturns(list[len(list)-1])
}
