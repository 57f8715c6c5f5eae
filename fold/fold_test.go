package fold_test

import (
	"fmt"
	"strings"
	"testing"

	"tiltyard/api"
	"tiltyard/check"
	"tiltyard/fold"
	"tiltyard/parse"
	"tiltyard/printer"
)

// tell is anything as text: by it a nil list and an empty one are the same.
func tell(x any) string { return fmt.Sprintf("%+v", x) }

// short spares a message the whole of a long source.
func short(s string) string { return s[:min(len(s), 400)] }

func parsed(t *testing.T, s string) api.Mod {
	t.Helper()
	m, f := parse.Parse(s)
	if f.Code != api.OK {
		t.Fatalf("Parse(%q): %v", short(s), f)
	}
	return m
}

func checked(t *testing.T, s string) api.Mod {
	t.Helper()
	m, f := check.Check(parsed(t, s))
	if f.Code != api.OK {
		t.Fatalf("Check of %q: %v", short(s), f)
	}
	return m
}

func folded(t *testing.T, s string) api.Mod {
	t.Helper()
	m, e := fold.Fold(parsed(t, s))
	if e != api.OK {
		t.Fatalf("Fold of %q: %v", short(s), e)
	}
	return m
}

func printed(t *testing.T, m api.Mod) string {
	t.Helper()
	s, e := printer.Print(m)
	if e != api.OK {
		t.Fatalf("Print of %s: %v", short(tell(m)), e)
	}
	return s
}

// walk calls the functions for all statements and all expressions of a tree.
func walk(m api.Mod, stmt func(*api.Stmt), expr func(*api.Expr)) {
	for i := range m.Funcs {
		walkStmts(m.Funcs[i].Body, stmt, expr)
	}
}

func walkStmts(list []api.Stmt, stmt func(*api.Stmt), expr func(*api.Expr)) {
	for i := range list {
		stmt(&list[i])
		walkExprs(list[i].Exprs, expr)
		walkStmts(list[i].Body, stmt, expr)
		walkStmts(list[i].Else, stmt, expr)
	}
}

func walkExprs(list []api.Expr, expr func(*api.Expr)) {
	for i := range list {
		expr(&list[i])
		walkExprs(list[i].Args, expr)
	}
}

// still is a tree without its offsets.
func still(m api.Mod) api.Mod {
	for i := range m.Vars {
		m.Vars[i].At = 0
	}
	for i := range m.Funcs {
		m.Funcs[i].At = 0
	}
	walk(m, func(s *api.Stmt) { s.At = 0 }, func(e *api.Expr) { e.At = 0 })
	return m
}

// wantFolded asks that a source is folded as the other one is checked: the same
// tree, but for offsets, with its types, places and local variables.
func wantFolded(t *testing.T, source, want string) {
	t.Helper()
	got, wanted := folded(t, source), checked(t, want)
	text := printed(t, got)
	if text != printed(t, wanted) {
		t.Errorf("Fold of %q: %q, want %q", short(source), short(text), short(printed(t, wanted)))
		return
	}
	if tell(still(got)) != tell(still(wanted)) {
		t.Errorf("Fold of %q: %s, want %s", short(source), short(tell(got)), short(tell(wanted)))
	}
	wantAgain(t, source)
}

// wantAgain asks that nothing is left to fold (P13.4).
func wantAgain(t *testing.T, source string) {
	t.Helper()
	once := folded(t, source)
	twice, e := fold.Fold(once)
	if e != api.OK || tell(twice) != tell(folded(t, source)) {
		t.Errorf("Fold of the folded %q: %v and %s, want %s", short(source), e, short(tell(twice)), short(tell(once)))
	}
}

// wantAsChecked asks that there is nothing to fold: all stays, offsets as well.
func wantAsChecked(t *testing.T, source string) {
	t.Helper()
	got, want := folded(t, source), checked(t, source)
	if tell(got) != tell(want) {
		t.Errorf("Fold of %q: %s, want %s", short(source), short(tell(got)), short(tell(want)))
	}
}

func wantRunError(t *testing.T, told any, m api.Mod) {
	t.Helper()
	if got, e := fold.Fold(m); e != api.ErrRun || tell(got) != tell(api.Mod{}) {
		t.Errorf("Fold of %v: %v and %s, want ErrRun", told, e, short(tell(got)))
	}
}

func TestExamples(t *testing.T) {
	for source, want := range map[string]string{
		"fn f():int{return (1+2)*3-10;}":                          "return 9-10;",
		"fn f():bool{return !!(1/0==1)&&true;}":                   "return 1/0==1;",
		"fn f():int{if 1<2{return 1;}else{return 2;}}":            "return 1;",
		"fn f(){if true{let a:int=1+1;}while false{}return;f();}": "if true{let a:int=2;}return;",
	} {
		wantFolded(t, source, source[:strings.Index(source, "{")]+"{"+want+"}")
	}
}

// P13.1: what is refused

func TestFaultsOfTheTree(t *testing.T) {
	for _, s := range []string{
		"fn f(){g();}", "fn f(){let a:int=1.0;}", "var a:int;var a:int;", "fn kill(){}", "fn f():int{}", "fn f(){return 1;}", "fn f(){kill();}",
		// Where it is folded away, a fault is one, too.
		"fn f(){if false{g();}}", "fn f(){return;g();}", "fn f(){while false{g();}}", "fn f():bool{return false&&none;}", "fn f():bool{return true||1;}",
		"fn f():bool{return !!1;}", "fn f():fix{return 1.5%0.5;}", "fn f():bool{return true<false;}", "fn f():bool{return null<=null;}",
		"fn f():int{return 1+1.0;}", "fn f():int{return tofix(1);}", "fn f():int{return toint(1);}", "fn f():bool{return -true;}", "fn f():int{return !1;}",
		"fn f():int{if true{return 1;}}", "fn f():int{while true{return 1;}}",
	} {
		wantRunError(t, s, parsed(t, s))
	}
	for _, m := range []api.Mod{
		{Vars: []api.Var{{Name: "a"}}},
		{Vars: []api.Var{{Name: "if", Type: api.TyInt}}},
		{Funcs: []api.Func{{}}},
		{Funcs: []api.Func{{Name: "f", Body: []api.Stmt{{}}}}},
		{Funcs: []api.Func{{Name: "f", Body: []api.Stmt{{Kind: api.StmtReturn, Exprs: []api.Expr{{Kind: 10}}}}}}},
		{Funcs: []api.Func{{Name: "f", Type: api.TyInt, Body: []api.Stmt{{Kind: api.StmtReturn, Exprs: []api.Expr{{Kind: api.ExprInt, Num: -1}}}}}}},
		{Funcs: []api.Func{{Name: "f", Body: []api.Stmt{{Kind: api.StmtCall, Exprs: []api.Expr{{Kind: api.ExprInt}}}}}}},
	} {
		wantRunError(t, tell(m), m)
	}
}

// thirds are statements with a quotient whose text is longer than itself.
func thirds(name string, n int) string { return strings.Repeat(name+"=1.0/3.0;", n) }

func TestTextsThatBecomeTooLong(t *testing.T) {
	longest := 0
	for n := range 8 {
		source := "var x:fix;fn " + strings.Repeat("f", 1+n) + "(){" + thirds("x", 399) + "}"
		text := strings.ReplaceAll(printed(t, checked(t, source)), "1.0 / 3.0", "0.33333333325572311878204345703125")
		if len(text) <= api.MaxSource {
			longest = len(text)
			wantFolded(t, source, text)
		} else {
			wantRunError(t, len(text), parsed(t, source))
		}
	}
	if longest != api.MaxSource {
		t.Errorf("the longest text has %d bytes", longest)
	}
}

func TestBlocksThatBecomeTooLong(t *testing.T) {
	calls := func(n int) string { return strings.Repeat("f();", n) }
	for _, condition := range []string{"if true{#}", "if false{}else{#}"} {
		source := func(inside, around int) string {
			return "fn f(){" + strings.Replace(condition, "#", calls(inside), 1) + calls(around) + "}"
		}
		wantFolded(t, source(api.MaxBody, 0), "fn f(){"+calls(api.MaxBody)+"}")
		wantFolded(t, source(250, 150), "fn f(){"+calls(api.MaxBody)+"}")
		wantRunError(t, "250 and 151", parsed(t, source(250, 151)))
		wantRunError(t, "400 and 1", parsed(t, source(api.MaxBody, 1)))
	}
	// What is removed behind a return does not count.
	wantFolded(t, "fn f(){if true{"+calls(390)+"return;}"+calls(200)+"}", "fn f(){"+calls(390)+"return;}")
	wantRunError(t, "nested", parsed(t, "fn f(){if true{"+calls(200)+"if true{"+calls(201)+"}}}"))
}

func TestNothing(t *testing.T) {
	for _, m := range []api.Mod{{}, {Vars: []api.Var{}, Funcs: []api.Func{}}} {
		if got, e := fold.Fold(m); e != api.OK || tell(got) != tell(api.Mod{}) {
			t.Errorf("Fold of nothing: %v, %v", got, e)
		}
	}
	wantAsChecked(t, "fn f(){}")
	wantAsChecked(t, "var a:int=-3;var b:[4]fix;var c:bool=true;")
}

// P13.1: the tree is a checked one

func TestFoldedTreesAreChecked(t *testing.T) {
	for _, s := range []string{
		"var g:int;fn f(p:int):fix{let t:int=p+g*(1+2);return tofix(t)+tofix(2);}",
		"fn f(p:int){if false{let a:bool=true;}let b:fix=0.5+0.25;while p<1+2{let c:ent=null;p=p+1;}return;let d:int=1;}",
		"fn f(p:int){if true{if p<2{let a:bool=!false;}else{let b:int=p;}}let a:int=-0;p=a;}",
		"fn f(){while false{let a:int=1;}if true{let a:int=2;a=a+1;}else{let b:bool=true;}let c:fix=1.0;c=c+c;}",
	} {
		got := folded(t, s)
		again, f := check.Check(got)
		if f.Code != api.OK || tell(again) != tell(got) {
			t.Errorf("Check of the folded %q: %v and %s, want %s", s, f, tell(again), tell(got))
		}
	}
	m := folded(t, "fn f(p:int){if false{let a:bool=true;}let b:fix=0.5+0.25;while p<1+2{let c:ent=null;}}")
	f := m.Funcs[0]
	if tell(f.Locals) != tell([]int{api.TyInt, api.TyFix, api.TyEnt}) || f.Body[0].Place != 1 || f.Body[1].Body[0].Place != 2 {
		t.Errorf("%+v", f)
	}
	if e := f.Body[0].Exprs[0]; e.Type != api.TyFix || e.Kind != api.ExprFix || e.Num != 3*api.One/4 {
		t.Errorf("%+v", e)
	}
}

// littered gives a tree something where the check tells.
func littered(m api.Mod, n int) api.Mod {
	walk(m, func(s *api.Stmt) { s.Place = n }, func(e *api.Expr) { e.Type, e.Place = n, n })
	for i := range m.Funcs {
		m.Funcs[i].Locals = []int{n, n}
	}
	return m
}

func TestWhatWasToldBefore(t *testing.T) {
	// Types and places come from a check of its own, not from the argument.
	const s = "fn f(x:fix):fix{if toint(2.5)<tofix2(1){return -0.0+tofix(3);}return x;}fn tofix2(a:int):int{return a+(1+1);}"
	want := tell(folded(t, s))
	for _, n := range []int{api.PlaceToFix, api.PlaceToInt, -1, 0, 1, 2, 3, 4, 99} {
		if got, e := fold.Fold(littered(parsed(t, s), n)); e != api.OK || tell(got) != want {
			t.Errorf("Fold with %d in it: %v and %s, want %s", n, e, tell(got), want)
		}
	}
	wantAgain(t, s)
}

// P13.4

func TestWhatCanNotBeFolded(t *testing.T) {
	for _, s := range []string{
		"fn f(x:int):int{return x+1+2;}", "fn f(x:int):int{return x*0+0*x-0;}", "fn f(x:bool):bool{return x&&false||x||true;}",
		"fn f(x:int){if x<1{f(1);}else if x<2{f(2);}else{f(3);}while true{f(4);}f(5);}",
		"fn f(x:int):int{if x==1{return 1;}else{x=2;}return -1;}", "var a:[3]ent;fn f(x:int):ent{a[x]=a[x-1];return nth(x);}",
	} {
		wantAsChecked(t, s)
	}
}
