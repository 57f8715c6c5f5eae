package check_test

import (
	"slices"
	"strings"
	"testing"

	"tiltyard/api"
	"tiltyard/check"
	"tiltyard/parse"
	"tiltyard/printer"
)

// The model lists everything that the chapter asks for, in its order: the first
// that is not so is the fault. What is visible is a list that each block gets
// anew, and what a name or a type is, is looked up in the tree itself.

// asked is something that the chapter asks for.
type asked struct {
	right bool
	fault api.Fault
}

func ask(right bool, code api.Errno, at int) asked {
	return asked{right, api.Fault{Code: code, At: at}}
}

// model is for a function: count is how many local variables it has so far.
type model struct {
	api.Mod
	function api.Func
	count    int
	list     []asked
}

func (m *model) ask(right bool, code api.Errno, at int) {
	m.list = append(m.list, ask(right, code, at))
}

// variable answers the variable of the mod with that name, which is an array or not.
func (m *model) variable(name string, array bool) (int, bool) {
	for _, v := range m.Vars {
		if v.Name == name && (v.Size != 0) == array {
			return v.Type, true
		}
	}
	return 0, false
}

// scalar answers the type of what is called by that name alone.
func (m *model) scalar(visible []api.Param, name string) (int, bool) {
	for _, p := range visible {
		if p.Name == name {
			return p.Type, true
		}
	}
	return m.variable(name, false)
}

func (m *model) callable(name string) (api.Sys, bool) {
	for _, f := range m.Funcs {
		if f.Name == name {
			s := api.Sys{Name: name, Result: f.Type}
			for _, p := range f.Params {
				s.Params = append(s.Params, p.Type)
			}
			return s, true
		}
	}
	for _, f := range provided() {
		if f.Name == name {
			return f, true
		}
	}
	return api.Sys{}, false
}

// provided are all functions that are not those of the mod.
func provided() []api.Sys {
	return append(api.Calls(), toFix(), toInt())
}

func toFix() api.Sys { return api.Sys{Name: "tofix", Params: []int{api.TyInt}, Result: api.TyFix} }

func toInt() api.Sys { return api.Sys{Name: "toint", Params: []int{api.TyFix}, Result: api.TyInt} }

func isProvided(name string) bool {
	return slices.ContainsFunc(provided(), func(f api.Sys) bool { return f.Name == name })
}

func (m *model) reserved(name string) bool {
	_, scalar := m.variable(name, false)
	_, array := m.variable(name, true)
	_, call := m.callable(name)
	return scalar || array || call
}

// kind is the type of an expression that is right.
func (m *model) kind(visible []api.Param, e api.Expr) int {
	switch e.Kind {
	case api.ExprInt, api.ExprFix, api.ExprBool, api.ExprNull:
		return map[int]int{api.ExprInt: api.TyInt, api.ExprFix: api.TyFix, api.ExprBool: api.TyBool, api.ExprNull: api.TyEnt}[e.Kind]
	case api.ExprName:
		kind, _ := m.scalar(visible, e.Name)
		return kind
	case api.ExprIndex:
		kind, _ := m.variable(e.Name, true)
		return kind
	case api.ExprCall:
		f, _ := m.callable(e.Name)
		return f.Result
	}
	if slices.Contains([]int{api.OpEq, api.OpNe, api.OpLt, api.OpLe, api.OpGt, api.OpGe, api.OpAnd, api.OpOr}, e.Op) {
		return api.TyBool
	}
	return m.kind(visible, e.Args[0])
}

func (m *model) expr(visible []api.Param, e api.Expr, statement bool) {
	switch e.Kind {
	case api.ExprName:
		_, found := m.scalar(visible, e.Name)
		m.ask(found, api.ErrName, e.At)
	case api.ExprIndex:
		_, found := m.variable(e.Name, true)
		m.ask(found, api.ErrName, e.At)
		m.expr(visible, e.Args[0], false)
		m.ask(m.kind(visible, e.Args[0]) == api.TyInt, api.ErrType, e.Args[0].At)
	case api.ExprCall:
		f, found := m.callable(e.Name)
		m.ask(found, api.ErrName, e.At)
		m.ask(len(e.Args) == len(f.Params), api.ErrCount, e.At)
		for i, a := range e.Args {
			m.expr(visible, a, false)
			m.ask(i < len(f.Params) && m.kind(visible, a) == f.Params[i], api.ErrType, a.At)
		}
		m.ask(statement || f.Result != 0, api.ErrType, e.At)
	case api.ExprUnary:
		m.expr(visible, e.Args[0], false)
		want := map[int]string{api.OpNeg: "if", api.OpNot: "b"}[e.Op]
		m.ask(strings.Contains(want, letter(m.kind(visible, e.Args[0]))), api.ErrType, e.At)
	case api.ExprBoth:
		m.expr(visible, e.Args[0], false)
		m.expr(visible, e.Args[1], false)
		left, right := m.kind(visible, e.Args[0]), m.kind(visible, e.Args[1])
		want := "if"
		switch e.Op {
		case api.OpMod:
			want = "i"
		case api.OpAnd, api.OpOr:
			want = "b"
		case api.OpEq, api.OpNe:
			want = "ifbe"
		}
		m.ask(left == right && strings.Contains(want, letter(left)), api.ErrType, e.At)
	}
}

func (m *model) typed(visible []api.Param, e api.Expr, want, at int) {
	m.expr(visible, e, false)
	m.ask(m.kind(visible, e) == want, api.ErrType, at)
}

func isVisible(visible []api.Param, name string) bool {
	return slices.ContainsFunc(visible, func(p api.Param) bool { return p.Name == name })
}

func (m *model) block(visible []api.Param, l []api.Stmt) {
	visible = slices.Clone(visible)
	for _, s := range l {
		m.stmt(visible, s)
		if s.Kind == api.StmtLet {
			m.count++
			visible = append(visible, api.Param{Name: s.Name, Type: s.Type})
		}
	}
}

func (m *model) stmt(visible []api.Param, s api.Stmt) {
	switch s.Kind {
	case api.StmtLet:
		m.typed(visible, s.Exprs[0], s.Type, s.At)
		m.ask(!m.reserved(s.Name) && !isVisible(visible, s.Name), api.ErrName, s.At)
		m.ask(m.count < api.MaxLocals, api.ErrCount, s.At)
	case api.StmtSet:
		kind, found := m.scalar(visible, s.Name)
		m.ask(found, api.ErrName, s.At)
		m.typed(visible, s.Exprs[0], kind, s.At)
	case api.StmtPut:
		kind, found := m.variable(s.Name, true)
		m.ask(found, api.ErrName, s.At)
		m.typed(visible, s.Exprs[0], api.TyInt, s.Exprs[0].At)
		m.typed(visible, s.Exprs[1], kind, s.At)
	case api.StmtIf, api.StmtWhile:
		m.typed(visible, s.Exprs[0], api.TyBool, s.Exprs[0].At)
		m.block(visible, s.Body)
		m.block(visible, s.Else)
	case api.StmtReturn:
		m.ask(len(s.Exprs) == min(1, m.function.Type), api.ErrReturn, s.At)
		for _, e := range s.Exprs {
			m.typed(visible, e, m.function.Type, s.At)
		}
	case api.StmtCall:
		m.expr(visible, s.Exprs[0], true)
	}
}

func returns(l []api.Stmt) bool {
	return len(l) > 0 && (l[len(l)-1].Kind == api.StmtReturn || l[len(l)-1].Kind == api.StmtIf && returns(l[len(l)-1].Body) && returns(l[len(l)-1].Else))
}

// asks is everything that is asked of a tree.
func asks(tree api.Mod) []asked {
	l := []asked{}
	for i, v := range tree.Vars {
		earlier := slices.ContainsFunc(tree.Vars[:i], func(w api.Var) bool { return w.Name == v.Name })
		l = append(l, ask(!earlier && !isProvided(v.Name), api.ErrName, v.At))
	}
	for i, f := range tree.Funcs {
		variable := slices.ContainsFunc(tree.Vars, func(w api.Var) bool { return w.Name == f.Name })
		earlier := slices.ContainsFunc(tree.Funcs[:i], func(g api.Func) bool { return g.Name == f.Name })
		l = append(l, ask(!variable && !earlier && !isProvided(f.Name), api.ErrName, f.At))
		for _, back := range api.Backs() {
			same := slices.EqualFunc(f.Params, back.Params, func(p api.Param, kind int) bool { return p.Type == kind })
			l = append(l, ask(f.Name != back.Name || same && f.Type == 0, api.ErrType, f.At))
		}
	}
	for _, f := range tree.Funcs {
		m := &model{Mod: tree, function: f, count: len(f.Params)}
		for i, p := range f.Params {
			m.ask(!m.reserved(p.Name) && !isVisible(f.Params[:i], p.Name), api.ErrName, f.At)
		}
		m.block(f.Params, f.Body)
		m.ask(f.Type == 0 || returns(f.Body), api.ErrReturn, f.At)
		l = append(l, m.list...)
	}
	return l
}

func modelFault(m api.Mod) api.Fault {
	if e := printer.Right(m); e != api.OK {
		return api.Fault{Code: e, At: -1}
	}
	l := asks(m)
	if i := slices.IndexFunc(l, func(a asked) bool { return !a.right }); i >= 0 {
		return l[i].fault
	}
	return api.Fault{}
}

// wantAsModel answers the fault.
func wantAsModel(t *testing.T, m api.Mod) api.Fault {
	t.Helper()
	want := modelFault(m)
	if got, f := check.Check(m); f != want || f.Code != api.OK && tell(got) != tell(api.Mod{}) {
		s, _ := printer.Print(m)
		t.Errorf("%s, which is %s: %v and %s, want %v", tell(m), s, f, tell(got), want)
	}
	return want
}

// everyWay asks of all sources that are a beginning, up to so many of the
// pieces, and an end, if they have a tree; it answers how many of them are right.
func everyWay(t *testing.T, beginning, end string, pieces []string, far int) int {
	right := 0
	if m, f := parse.Parse(beginning + end); f.Code == api.OK && wantAsModel(t, m).Code == api.OK {
		right++
	}
	if far == 0 {
		return right
	}
	for _, x := range pieces {
		right += everyWay(t, beginning+x, end, pieces, far-1)
	}
	return right
}

func TestEveryWayOfBlocks(t *testing.T) {
	pieces := []string{"let a:int=1;", "let b:int=a;", "let a:fix=c;", "a=1;", "a=c;", "g=a;", "b=b;", "if t{", "}else{", "}", "while t{", "return;"}
	if n := everyWay(t, "var g:int;fn f(c:fix,t:bool){", "}", pieces, 4); n < 100 {
		t.Errorf("only %d are right", n)
	}
}

func TestEveryWayOfResults(t *testing.T) {
	pieces := []string{"return 1;", "return;", "return 1.0;", "if true{", "}else{", "}else if true{", "}", "f();"}
	if n := everyWay(t, "fn f():int{", "}", pieces, 5); n < 50 {
		t.Errorf("only %d are right", n)
	}
}

func TestEveryWayOfExpressions(t *testing.T) {
	pieces := []string{"1", "x", "2.0", "true", "null", "(", ")", "-", "+", "<", "==", "!", "&&", "v[", "]", "h(", "f(", ","}
	if n := everyWay(t, "var v:[2]int;fn h(a:fix,b:int):bool{return a<tofix(b);}fn f(x:int){x=", ";}", pieces, 4); n < 50 {
		t.Errorf("only %d are right", n)
	}
}

func TestEveryWayOfNames(t *testing.T) {
	pieces := []string{"var a:int;", "var b:[2]fix;", "var kill:int;", "var tick:int;", "fn a(){}", "fn c(){c();}", "fn tick(){}", "fn tick(x:int){}",
		"fn kill(b:int){}", "fn e(a:int){}", "fn j(b:int,c:int){b=c;}", "fn i():int{return a;}", "fn k(){let a:int=i();}", "fn tofix():int{x=1;}"}
	if n := everyWay(t, "", "", pieces, 4); n < 150 {
		t.Errorf("only %d are right", n)
	}
}
