package check_test

import (
	"math/rand"
	"slices"
	"testing"

	"tiltyard/api"
	"tiltyard/check"
	"tiltyard/printer"
)

// local is a local variable.
type local struct {
	name        string
	kind, place int
}

// maker makes trees without a fault, together with all that a check tells of them.
type maker struct {
	*rand.Rand
	mod     api.Mod
	visible []local
	locals  []int
	result  int
	budget  int // how many parts there may be yet
	offset  int
}

func (r *maker) chance(percent int) bool { return r.Intn(100) < percent }

// at is an offset that nothing else has.
func (r *maker) at() int {
	r.offset += 1 + r.Intn(3)
	return r.offset
}

func (r *maker) kind() int { return 1 + r.Intn(4) }

// spend tells whether there may be one more part that has parts.
func (r *maker) spend() bool {
	r.budget--
	return r.budget > 0
}

func (r *maker) makeVars() {
	for i, s := range []string{"a", "b", "c", "d", "tick", "e", "input", "a_name_of_24_letters_abc"} {
		if r.chance(60) {
			v := api.Var{Name: s, Type: 1 + (i+r.Intn(2))%4, At: r.at()}
			if r.chance(40) {
				v.Size = 1 + r.Intn(256)
			} else if v.Type <= api.TyFix {
				v.Value = r.Intn(1000) - 500
			}
			r.mod.Vars = append(r.mod.Vars, v)
		}
	}
}

// makeHeaders makes all functions but for their bodies.
func (r *maker) makeHeaders() {
	for _, s := range []string{"f", "g", "start", "h", "touch", "i"} {
		if r.chance(40) {
			continue
		}
		f := api.Func{Name: s, At: r.at()}
		back := slices.IndexFunc(api.Backs(), func(b api.Sys) bool { return b.Name == s })
		params := []int{}
		if back >= 0 {
			params = api.Backs()[back].Params
		} else {
			f.Type = r.Intn(5)
			for range r.Intn(6) {
				params = append(params, r.kind())
			}
		}
		for i, kind := range params {
			f.Params = append(f.Params, api.Param{Name: []string{"p", "q", "r", "s", "t"}[i], Type: kind})
		}
		r.mod.Funcs = append(r.mod.Funcs, f)
	}
}

func (r *maker) makeBody(f *api.Func) {
	r.visible, r.locals, r.result = nil, nil, f.Type
	for _, p := range f.Params {
		r.declare(p.Name, p.Type)
	}
	f.Body = r.block(f.Type != 0)
	f.Locals = r.locals
}

func (r *maker) declare(name string, kind int) int {
	place := len(r.locals)
	r.visible = append(r.visible, local{name, kind, place})
	r.locals = append(r.locals, kind)
	return place
}

// block makes one that always returns, if it has to.
func (r *maker) block(end bool) []api.Stmt {
	before := len(r.visible)
	l := []api.Stmt{}
	for r.chance(70) && r.spend() {
		l = append(l, r.stmt())
	}
	if end {
		l = append(l, r.ending())
	}
	r.visible = r.visible[:before]
	return l
}

func (r *maker) ending() api.Stmt {
	if r.chance(30) && r.spend() {
		return api.Stmt{Kind: api.StmtIf, At: r.at(), Exprs: r.exprs(api.TyBool), Body: r.block(true), Else: r.block(true)}
	}
	return r.giveBack()
}

func (r *maker) giveBack() api.Stmt {
	s := api.Stmt{Kind: api.StmtReturn, At: r.at()}
	if r.result != 0 {
		s.Exprs = r.exprs(r.result)
	}
	return s
}

func (r *maker) stmt() api.Stmt {
	switch r.Intn(9) {
	case 0, 1:
		if s, ok := r.let(); ok {
			return s
		}
	case 2, 3:
		if e, ok := r.scalar(r.kind()); ok {
			return api.Stmt{Kind: api.StmtSet, Name: e.Name, Place: e.Place, At: r.at(), Exprs: r.exprs(e.Type)}
		}
	case 4:
		if e, ok := r.element(r.kind()); ok {
			return api.Stmt{Kind: api.StmtPut, Name: e.Name, Place: e.Place, At: r.at(), Exprs: append(e.Args, r.expr(e.Type))}
		}
	case 5:
		return api.Stmt{Kind: api.StmtWhile, At: r.at(), Exprs: r.exprs(api.TyBool), Body: r.block(false)}
	case 6:
		return r.giveBack()
	case 7:
		return api.Stmt{Kind: api.StmtIf, At: r.at(), Exprs: r.exprs(api.TyBool), Body: r.block(false), Else: r.block(false)}
	}
	return api.Stmt{Kind: api.StmtCall, At: r.at(), Exprs: []api.Expr{r.call(r.Intn(5))}}
}

func (r *maker) let() (api.Stmt, bool) {
	name := []string{"k", "l", "m", "n", "leave", "o"}[r.Intn(6)]
	if len(r.locals) >= api.MaxLocals || slices.ContainsFunc(r.visible, func(l local) bool { return l.name == name }) {
		return api.Stmt{}, false
	}
	s := api.Stmt{Kind: api.StmtLet, Name: name, Type: r.kind(), At: r.at()}
	s.Exprs = r.exprs(s.Type)
	s.Place = r.declare(name, s.Type)
	return s, true
}

func (r *maker) exprs(kind int) []api.Expr { return []api.Expr{r.expr(kind)} }

func (r *maker) expr(kind int) api.Expr {
	e, ok := api.Expr{}, false
	if r.chance(60) && r.spend() {
		switch r.Intn(5) {
		case 0:
			e, ok = r.element(kind)
		case 1:
			return r.call(kind)
		case 2:
			e, ok = r.unary(kind)
		default:
			e, ok = r.both(kind)
		}
	} else if r.chance(60) {
		e, ok = r.scalar(kind)
	}
	if ok {
		return e
	}
	return r.literal(kind)
}

func (r *maker) literal(kind int) api.Expr {
	switch kind {
	case api.TyInt:
		return api.Expr{Kind: api.ExprInt, Num: r.Intn(100), Type: kind, At: r.at()}
	case api.TyFix:
		return api.Expr{Kind: api.ExprFix, Num: r.Intn(4) * api.One / 2, Type: kind, At: r.at()}
	case api.TyBool:
		return api.Expr{Kind: api.ExprBool, Num: r.Intn(2), Type: kind, At: r.at()}
	}
	return api.Expr{Kind: api.ExprNull, Type: kind, At: r.at()}
}

func (r *maker) scalar(kind int) (api.Expr, bool) {
	all := []api.Expr{}
	for _, l := range r.visible {
		if l.kind == kind {
			all = append(all, api.Expr{Kind: api.ExprName, Name: l.name, Place: l.place, Type: kind, At: r.at()})
		}
	}
	for k, v := range r.mod.Vars {
		if v.Size == 0 && v.Type == kind {
			all = append(all, api.Expr{Kind: api.ExprName, Name: v.Name, Place: -1 - k, Type: kind, At: r.at()})
		}
	}
	if len(all) == 0 {
		return api.Expr{}, false
	}
	return all[r.Intn(len(all))], true
}

func (r *maker) element(kind int) (api.Expr, bool) {
	for k, v := range r.mod.Vars {
		if v.Size != 0 && v.Type == kind && r.chance(60) {
			return api.Expr{Kind: api.ExprIndex, Name: v.Name, Place: -1 - k, Type: kind, At: r.at(), Args: r.exprs(api.TyInt)}, true
		}
	}
	return api.Expr{}, false
}

// call makes one of a function with that result, which may be none.
func (r *maker) call(result int) api.Expr {
	type callee struct {
		api.Sys
		place int
	}
	all := []callee{}
	for k, f := range r.mod.Funcs {
		s := api.Sys{Name: f.Name, Result: f.Type}
		for _, p := range f.Params {
			s.Params = append(s.Params, p.Type)
		}
		all = append(all, callee{s, k}, callee{s, k}, callee{s, k})
	}
	for k, f := range api.Calls() {
		all = append(all, callee{f, -1 - k})
	}
	all = append(all, callee{toFix(), api.PlaceToFix}, callee{toInt(), api.PlaceToInt})
	all = slices.DeleteFunc(all, func(c callee) bool { return c.Result != result })
	// Each result is that of some function of the engine.
	c := all[r.Intn(len(all))]
	e := api.Expr{Kind: api.ExprCall, Name: c.Name, Place: c.place, Type: result, At: r.at()}
	for _, kind := range c.Params {
		e.Args = append(e.Args, r.expr(kind))
	}
	return e
}

func (r *maker) unary(kind int) (api.Expr, bool) {
	op := map[int]int{api.TyInt: api.OpNeg, api.TyFix: api.OpNeg, api.TyBool: api.OpNot}[kind]
	return api.Expr{Kind: api.ExprUnary, Op: op, Type: kind, At: r.at(), Args: r.exprs(kind)}, op != 0
}

func (r *maker) both(kind int) (api.Expr, bool) {
	ops, operand := []int{api.OpAdd, api.OpSub, api.OpMul, api.OpDiv}, kind
	switch kind {
	case api.TyInt:
		ops = append(ops, api.OpMod)
	case api.TyBool:
		ops, operand = []int{api.OpAnd, api.OpOr, api.OpEq, api.OpNe}, api.TyBool
		if r.chance(60) {
			ops, operand = []int{api.OpEq, api.OpNe}, r.kind()
			if operand <= api.TyFix {
				ops = append(ops, api.OpLt, api.OpLe, api.OpGt, api.OpGe)
			}
		}
	case api.TyEnt:
		return api.Expr{}, false
	}
	e := api.Expr{Kind: api.ExprBoth, Op: ops[r.Intn(len(ops))], Type: kind, At: r.at()}
	e.Args = append(r.exprs(operand), r.expr(operand))
	return e, true
}

// made is a tree that is right, as a check answers it.
func made(seed int64) (*maker, api.Mod) {
	r := &maker{Rand: rand.New(rand.NewSource(seed))}
	r.makeVars()
	r.makeHeaders()
	for i := range r.mod.Funcs {
		r.budget = 1 + r.Intn(60)
		r.makeBody(&r.mod.Funcs[i])
	}
	return r, r.mod
}

// untold is a tree without what a check tells, of memory of its own.
func untold(m api.Mod) api.Mod { return cleared(roomyMod(m)) }

func TestMadeTrees(t *testing.T) {
	count, statements := 0, [8]int{}
	for seed := range int64(1000) {
		_, want := made(seed)
		m := untold(want)
		if printer.Right(m) != api.OK {
			continue
		}
		count++
		walk(m, func(s *api.Stmt) { statements[s.Kind]++ }, func(*api.Expr) {})
		if got, f := check.Check(m); tell(got) != tell(want) || f != (api.Fault{}) {
			s, _ := printer.Print(m)
			t.Fatalf("Check of %s: %v and %s, want %s", s, f, tell(got), tell(want))
		}
		wantAsModel(t, m)
		if seed%10 == 0 {
			wantSameAgain(t, m)
			wantOwn(t, m)
		}
	}
	if count < 950 || slices.Min(statements[1:]) < 300 {
		t.Errorf("%d trees, with %v statements, are too few", count, statements)
	}
}

// otherName is one that may be there, or not.
func (r *maker) otherName() string {
	l := append(engineNames(), "a", "b", "c", "d", "e", "f", "g", "h", "i", "k", "l", "m", "n", "o", "p", "q", "r", "s", "t", "tick", "start", "none")
	return l[r.Intn(len(l))]
}

// spoil changes something of a tree; mostly it stays one.
func (r *maker) spoil(m *api.Mod) {
	stmts, exprs := []*api.Stmt{}, []*api.Expr{}
	walk(*m, func(s *api.Stmt) { stmts = append(stmts, s) }, func(e *api.Expr) { exprs = append(exprs, e) })
	switch n := r.Intn(100); {
	case n < 10 && len(m.Vars) > 0:
		r.spoilVar(m)
	case n < 20 && len(m.Funcs) > 0:
		r.spoilFunc(&m.Funcs[r.Intn(len(m.Funcs))])
	case n < 60 && len(stmts) > 0:
		r.spoilStmt(stmts[r.Intn(len(stmts))])
	case len(exprs) > 0:
		r.spoilExpr(exprs[r.Intn(len(exprs))], *exprs[r.Intn(len(exprs))])
	}
}

func (r *maker) spoilVar(m *api.Mod) {
	i := r.Intn(len(m.Vars))
	v := &m.Vars[i]
	switch r.Intn(5) {
	case 0:
		v.Name = r.otherName()
	case 1:
		v.Type, v.Value = r.kind(), 0
	case 2:
		v.Size, v.Value = 5-min(v.Size, 5), 0
	case 3:
		m.Vars = slices.Delete(m.Vars, i, i+1)
	case 4:
		v.Type, v.Value = r.Intn(7)-1, r.Intn(5)-2
	}
}

func (r *maker) spoilFunc(f *api.Func) {
	switch r.Intn(5) {
	case 0:
		f.Name = r.otherName()
	case 1:
		f.Type = r.Intn(5)
	case 2:
		f.Params = append(f.Params, api.Param{Name: r.otherName(), Type: r.kind()})
	case 3:
		f.Params = f.Params[:r.Intn(len(f.Params)+1)]
	case 4:
		f.Body = r.spoilBlock(f.Body)
	}
}

func (r *maker) spoilBlock(l []api.Stmt) []api.Stmt {
	if len(l) == 0 {
		return append(l, api.Stmt{Kind: api.StmtReturn, At: r.at()})
	}
	i := r.Intn(len(l))
	switch r.Intn(3) {
	case 0:
		return slices.Delete(l, i, i+1)
	case 1:
		return append(l, api.Stmt{Kind: api.StmtCall, At: r.at(), Exprs: []api.Expr{{Kind: api.ExprCall, Name: r.otherName(), At: r.at()}}})
	}
	l[0], l[i] = l[i], l[0]
	return l
}

func (r *maker) spoilStmt(s *api.Stmt) {
	switch n := r.Intn(6); {
	case n == 0:
		s.Name = r.otherName()
	case n == 1 && s.Kind == api.StmtLet:
		s.Type = r.kind()
	case n == 2 && s.Kind == api.StmtReturn:
		s.Exprs = append(s.Exprs, r.literal(r.kind()))[:1-len(s.Exprs)]
	case n == 3 && (s.Kind == api.StmtIf || s.Kind == api.StmtWhile):
		s.Body = r.spoilBlock(s.Body)
	case n == 4 && s.Kind == api.StmtIf:
		s.Else = r.spoilBlock(s.Else)
	case n == 5 && len(s.Exprs) > 0:
		s.Exprs[0] = r.literal(r.kind())
	}
}

func (r *maker) spoilExpr(e *api.Expr, other api.Expr) {
	switch n := r.Intn(7); {
	case n == 0 && e.Name != "":
		e.Name = r.otherName()
	case n == 1 && e.Op != 0:
		e.Op = 1 + r.Intn(13)
	case n == 2 && e.Kind == api.ExprUnary:
		e.Op = api.OpNeg + api.OpNot - e.Op
	case n == 3 && len(e.Args) > 0:
		e.Args = e.Args[:len(e.Args)-1]
	case n == 4 && e.Kind == api.ExprCall:
		e.Args = append(e.Args, r.literal(r.kind()))
	case n == 5:
		*e = api.Expr{Kind: api.ExprName, Name: r.otherName(), At: r.at()}
	case n == 6:
		copied := untold(api.Mod{Funcs: []api.Func{{Body: []api.Stmt{{Exprs: []api.Expr{other}}}}}})
		*e = copied.Funcs[0].Body[0].Exprs[0]
	}
}

func TestSpoiledTrees(t *testing.T) {
	count := map[api.Errno]int{}
	for seed := range int64(4000) {
		r, m := made(seed)
		m = untold(m)
		for range 1 + r.Intn(4) {
			r.spoil(&m)
		}
		count[wantAsModel(t, m).Code]++
		if t.Failed() {
			return
		}
		if seed%50 == 0 {
			wantOwn(t, m)
		}
	}
	for _, code := range []api.Errno{api.OK, api.ErrTree, api.ErrName, api.ErrType, api.ErrReturn, api.ErrCount} {
		if count[code] < 50 {
			t.Errorf("only %d have the fault %d", count[code], code)
		}
	}
}
