package check_test

import (
	"fmt"
	"slices"
	"strconv"
	"strings"
	"testing"

	"tiltyard/api"
	"tiltyard/check"
	"tiltyard/parse"
	"tiltyard/printer"
)

// tell is a tree as text: by it a nil list and an empty one are the same.
func tell(m api.Mod) string { return fmt.Sprintf("%+v", m) }

// short spares a message the whole of a long source.
func short(s string) string { return s[:min(len(s), 300)] }

func parsed(t *testing.T, s string) api.Mod {
	t.Helper()
	m, f := parse.Parse(s)
	if f.Code != api.OK {
		t.Fatalf("Parse(%q): %v", short(s), f)
	}
	return m
}

func wantTreeFault(t *testing.T, told any, m api.Mod, want api.Fault) {
	t.Helper()
	got, f := check.Check(m)
	if f != want || want.Code != api.OK && tell(got) != tell(api.Mod{}) {
		t.Errorf("%v: %v and %s, want %v", told, f, short(tell(got)), want)
	}
}

// wantFault asks for a fault where there is an @ in the source.
func wantFault(t *testing.T, code api.Errno, marked string) {
	t.Helper()
	at := strings.Index(marked, "@")
	if at < 0 {
		t.Fatalf("nothing is marked in %q", short(marked))
	}
	s := marked[:at] + marked[at+1:]
	wantTreeFault(t, short(s), parsed(t, s), api.Fault{Code: code, At: at})
}

func wantRight(t *testing.T, s string) {
	t.Helper()
	wantTreeFault(t, short(s), parsed(t, s), api.Fault{})
}

// world is what the statements of some tests can use: what each name is says
// its first letter, and its type the last one.
const world = "var gi:int;var gf:fix;var gb:bool;var ge:ent;" +
	"var ai:[3]int;var af:[3]fix;var ab:[3]bool;var ae:[3]ent;" +
	"fn hi():int{return 1;}fn hf():fix{return 1.0;}fn hb():bool{return true;}fn he():ent{return null;}fn h(){}" +
	"fn h3(x:int,y:fix,z:ent){}"

const (
	worldOpen  = world + "fn f(pi:int,pf:fix,pb:bool,pe:ent){"
	worldClose = "}"
)

func wantBody(t *testing.T, s string) {
	t.Helper()
	wantRight(t, worldOpen+s+worldClose)
}

func wantBodyFault(t *testing.T, code api.Errno, marked string) {
	t.Helper()
	wantFault(t, code, worldOpen+marked+worldClose)
}

func TestExamples(t *testing.T) {
	wantFault(t, api.ErrName, "var a:int;fn @f(a:int){}")
	wantFault(t, api.ErrName, "fn f(){let t:int=1;if true{@let t:int=2;}}")
	wantFault(t, api.ErrReturn, "fn @f():int{if true{return 1;}}")
	wantFault(t, api.ErrReturn, "fn f(){@return 1;}")
	wantFault(t, api.ErrType, "fn f(){kill(@1);}")
	wantFault(t, api.ErrCount, "fn f(){@kill();}")
	wantFault(t, api.ErrType, "fn f(){let a:int=@kill(null);}")
	wantFault(t, api.ErrType, "fn @tick(x:int){}")
	wantFault(t, api.ErrType, "fn f(){if 1@==1.0{}}")
}

// P11.1: whether it is a tree

func TestRightComesFirst(t *testing.T) {
	// Each has faults of its own, too.
	wrong := parsed(t, "var kill:int;var kill:int;fn f():int{x=1;}")
	long := wrong
	for range api.MaxBody - 1 {
		long.Funcs[0].Body = append(long.Funcs[0].Body, api.Stmt{Kind: api.StmtSet, Name: "x", Exprs: []api.Expr{{Kind: api.ExprInt, Num: api.MaxInt}}})
	}
	for range 2 {
		long.Funcs = append(long.Funcs, long.Funcs[0])
	}
	deep := api.Expr{Kind: api.ExprName, Name: "x"}
	for range api.MaxNest {
		deep = api.Expr{Kind: api.ExprUnary, Op: api.OpNeg, Args: []api.Expr{deep}}
	}
	nested := parsed(t, "fn f():int{x=1;}")
	nested.Funcs[0].Body[0].Exprs[0] = deep
	many := api.Mod{Vars: slices.Repeat(wrong.Vars, 40)}
	for _, m := range []api.Mod{
		long, nested, many,
		{Funcs: []api.Func{{}}},
		{Vars: []api.Var{{Name: "a"}}},
		{Vars: []api.Var{{Name: "if", Type: api.TyInt, At: 4}}},
		{Vars: []api.Var{{Name: "kill", Type: api.TyInt}}, Funcs: []api.Func{{Name: "f", Body: []api.Stmt{{}}}}},
		{Vars: []api.Var{{Name: "kill", Type: api.TyInt}}, Funcs: []api.Func{{Name: "f", Body: []api.Stmt{{Kind: api.StmtReturn, Exprs: []api.Expr{{Kind: 77}}}}}}},
	} {
		e := printer.Right(m)
		if e == api.OK {
			t.Fatalf("%s is a tree", short(tell(m)))
		}
		wantTreeFault(t, short(tell(m)), m, api.Fault{Code: e, At: -1})
	}
	for code, m := range map[api.Errno]api.Mod{api.ErrLong: long, api.ErrTree: nested} {
		wantTreeFault(t, short(tell(m)), m, api.Fault{Code: code, At: -1})
	}
}

func TestNothing(t *testing.T) {
	for _, m := range []api.Mod{{}, {Vars: []api.Var{}, Funcs: []api.Func{}}} {
		if got, f := check.Check(m); tell(got) != tell(api.Mod{}) || f != (api.Fault{}) {
			t.Errorf("Check of nothing: %s, %v", tell(got), f)
		}
	}
	wantRight(t, "fn f(){}")
	wantRight(t, "var a:int;")
}

// P11.1: names

// engineNames are those of what every mod can call.
func engineNames() []string {
	l := []string{"tofix", "toint"}
	for _, f := range api.Calls() {
		l = append(l, f.Name)
	}
	return l
}

func TestNamesOfVariables(t *testing.T) {
	for _, s := range engineNames() {
		wantFault(t, api.ErrName, "var @"+s+":int;")
		wantFault(t, api.ErrName, "var a:int;var @"+s+":[2]ent;var a:int;")
	}
	wantFault(t, api.ErrName, "var a:int;var @a:fix;")
	wantFault(t, api.ErrName, "var a:int;var b:int;var @a:[1]int;var b:int;")
	wantFault(t, api.ErrName, "var a:[1]int;var b:int;var @b:int;var a:int;")
	wantRight(t, "var a:int;var b:fix;var c:[2]bool;var d:ent;")
	// Those that the server calls are not there unless the mod has them.
	for _, f := range api.Backs() {
		wantRight(t, "var "+f.Name+":int;")
	}
}

func TestNamesOfFunctions(t *testing.T) {
	for _, s := range engineNames() {
		wantFault(t, api.ErrName, "fn @"+s+"(){}")
		wantFault(t, api.ErrName, "fn f(){}fn @"+s+"(x:int):int{}fn f(){}")
	}
	wantFault(t, api.ErrName, "var a:int;fn @a(){}")
	wantFault(t, api.ErrName, "var a:[3]int;fn b(){}fn @a(){}")
	wantFault(t, api.ErrName, "fn a(){}fn @a(){}")
	wantFault(t, api.ErrName, "fn a(){}fn b(){}fn @a(x:int):fix{}fn b(){}")
	wantRight(t, "var a:int;fn b(){}fn c(){}")
}

// words are the types, by their numbers.
func words() []string { return []string{"", "int", "fix", "bool", "ent"} }

// header is the beginning of a function, up to its result.
func header(name string, params []int) string {
	l := []string{}
	for i, kind := range params {
		l = append(l, "p"+strconv.Itoa(i)+":"+words()[kind])
	}
	return "fn @" + name + "(" + strings.Join(l, ",") + ")"
}

// paramLists are all those of up to three types.
func paramLists() [][]int {
	all := [][]int{nil}
	for i := 0; len(all[i]) < 3; i++ {
		for kind := api.TyInt; kind <= api.TyEnt; kind++ {
			all = append(all, append(slices.Clone(all[i]), kind))
		}
	}
	return all
}

func TestFunctionsThatTheServerCalls(t *testing.T) {
	for _, f := range api.Backs() {
		for _, params := range paramLists() {
			s := header(f.Name, params)
			if slices.Equal(params, f.Params) {
				wantRight(t, strings.Replace(s, "@", "", 1)+"{}")
			} else {
				wantFault(t, api.ErrType, s+"{}")
			}
			for kind := api.TyInt; kind <= api.TyEnt; kind++ {
				wantFault(t, api.ErrType, s+":"+words()[kind]+"{}")
			}
		}
		wantFault(t, api.ErrName, "var "+f.Name+":int;fn @"+f.Name+"(x:bool){}")
		wantFault(t, api.ErrType, "fn @"+f.Name+"(x:bool){}fn "+f.Name+"(){}")
	}
	wantRight(t, "fn ticks(x:int):int{return x;}fn tic(){}")
	wantFault(t, api.ErrName, "fn tick(){}fn @tick(x:int){}")
	// Two functions are looked at one by one.
	wantFault(t, api.ErrType, "fn @tick(x:int){}fn kill(){}")
	wantFault(t, api.ErrName, "fn @kill(){}fn tick(x:int){}")
}

func TestStagesInOrder(t *testing.T) {
	wantFault(t, api.ErrName, "var a:int;var @a:int;fn kill(){}fn f():int{x=1;}")
	wantFault(t, api.ErrName, "fn f():int{x=1;}fn @f(){}")
	wantFault(t, api.ErrType, "fn f(kill:int):int{x=1;}fn @tick():int{}")
	wantFault(t, api.ErrName, "fn f():int{@x=1;}fn g():int{}")
	wantFault(t, api.ErrReturn, "fn @f():int{}fn g(){x=1;}")
	wantFault(t, api.ErrName, "fn f(){}fn @g(kill:int){}fn h():int{}")
	wantFault(t, api.ErrReturn, "fn @f():int{}fn g(kill:int){}")
}

// reservedNames are those in a mod with a variable v, an array w, and functions f and g.
func reservedNames() []string { return append(engineNames(), "v", "w", "f", "g") }

func TestNamesOfParameters(t *testing.T) {
	const before, behind = "var v:int;var w:[2]int;", "fn g(){}"
	for _, s := range reservedNames() {
		wantFault(t, api.ErrName, before+"fn @f("+s+":int){x=1;}"+behind)
		wantFault(t, api.ErrName, before+"fn @f(a:int,b:fix,"+s+":int):int{x=1;}"+behind)
	}
	wantFault(t, api.ErrName, "fn @f(a:int,a:int){x=1;}")
	wantFault(t, api.ErrName, "fn @f(a:int,b:int,a:fix):int{x=1;}")
	wantRight(t, "fn f(a:int,b:int,c:int,d:int,e:int,g:int,h:int,i:int){}")
	// Those of other functions, and what the server would call, are free.
	wantRight(t, "fn f(a:int,b:fix){}fn g(b:int,a:fix){let c:int=b;}fn h(c:bool){}")
	wantRight(t, "fn f(tick:int,start:fix){}")
	wantFault(t, api.ErrName, "fn @f(tick:int){}fn tick(){}")
}

func TestResults(t *testing.T) {
	// The faults of the body come ahead of that of its end.
	wantFault(t, api.ErrName, "fn f():int{@x=1;}")
	wantFault(t, api.ErrReturn, "fn f():int{@return;}")
	wantFault(t, api.ErrType, "fn f():int{if true{@return 1.0;}}")
	for _, s := range []string{
		"", "h();", "return 1;h();", "while true{return 1;}", "if true{return 1;}", "if true{return 1;}else{}",
		"if true{}else{return 1;}", "if true{return 1;}else{h();}", "if true{return 1;h();}else{return 1;}",
		"if true{return 1;}else if true{return 1;}", "if true{if true{return 1;}}else{return 1;}",
		"if true{return 1;}else{if true{return 1;}else{while true{return 1;}}}",
		"if true{return 1;}else{return 1;}h();", "if true{return 1;}else{return 1;}while true{}",
		"return 1;let a:int=1;", "return 1;if true{}", "let a:int=1;a=2;",
	} {
		wantFault(t, api.ErrReturn, "fn h(){}fn @f():int{"+s+"}")
		// Without a result, it may end anywhere.
		wantRight(t, "fn h(){}fn f(){"+strings.ReplaceAll(s, "return 1", "return")+"}")
	}
	for _, s := range []string{
		"return 1;", "h();return 1;", "return 1;return 2;", "if true{return 1;}else{return 1;}", "if true{}return 1;", "while true{}return 1;",
		"if true{return 1;}else if true{return 1;}else{return 1;}", "if true{if true{return 1;}else{return 1;}}else{h();return 1;}",
		"if true{return 1;}else{while true{}return 1;}", "return 1;if true{return 1;}else{return 1;}",
	} {
		wantRight(t, "fn h(){}fn f():int{"+s+"}")
		wantRight(t, "fn h(){}fn f(){"+strings.NewReplacer("return 1", "return", "return 2", "return").Replace(s)+"}")
	}
}

// P11.2: statements

// valuesOf are expressions of a type, in the world above.
func valuesOf(kind int) []string {
	literals := []string{"", "7", "1.5", "true", "null"}
	letter := words()[kind][:1]
	return []string{literals[kind], "p" + letter, "g" + letter, "a" + letter + "[1]", "h" + letter + "()"}
}

// wantTyped asks for a value of one type alone in the place of the # of a
// statement. The fault is marked, if it is not that of the value.
func wantTyped(t *testing.T, statement string, want int) {
	t.Helper()
	for kind := api.TyInt; kind <= api.TyEnt; kind++ {
		for _, s := range valuesOf(kind) {
			whole := strings.ReplaceAll(statement, "#", s)
			if kind == want {
				wantBody(t, strings.Replace(whole, "@", "", 1))
			} else {
				wantBodyFault(t, api.ErrType, whole)
			}
		}
	}
}

func TestLets(t *testing.T) {
	for kind := api.TyInt; kind <= api.TyEnt; kind++ {
		wantTyped(t, "@let n:"+words()[kind]+"=#;", kind)
		wantTyped(t, "if pb{let n:int=1;@let m:"+words()[kind]+"=#;}", kind)
	}
	// Its expression comes ahead of its type, that ahead of its name.
	wantBodyFault(t, api.ErrName, "let gi:int=@none;")
	wantBodyFault(t, api.ErrType, "let gi:int=1@+1.0;")
	wantBodyFault(t, api.ErrType, "@let gi:int=1.0;")
	wantBodyFault(t, api.ErrType, "@let pi:int=true;")
	wantBodyFault(t, api.ErrType, "let n:int=@h();")
	wantBodyFault(t, api.ErrType, "let gi:int=@kill(pe);")
	// The scope begins behind it.
	wantBodyFault(t, api.ErrName, "let n:int=@n;")
	wantBodyFault(t, api.ErrName, "let n:int=1+@n;")
	wantBodyFault(t, api.ErrName, "let m:int=@n;let n:int=1;")
	wantBody(t, "let n:int=1;let m:int=n;n=m;")
}

func TestNamesOfLets(t *testing.T) {
	const before, behind = "var v:int;var w:[2]int;fn f(p:int,q:fix){", "}fn g(){}"
	for _, s := range append(reservedNames(), "p", "q") {
		wantFault(t, api.ErrName, before+"@let "+s+":int=1;x=1;"+behind)
		wantFault(t, api.ErrName, before+"if true{while true{@let "+s+":int=1;x=1;}}"+behind)
	}
	wantRight(t, before+"let tick:int=1;let start:int=tick;let f1:int=1;let r:int=p;"+behind)
	wantFault(t, api.ErrName, "fn f(){let a:int=1;@let a:int=2;}")
	wantFault(t, api.ErrName, "fn f(){let a:int=1;let b:int=1;@let a:fix=2.0;}")
	wantFault(t, api.ErrName, "fn f(){let a:int=1;while true{@let a:int=2;}}")
	wantFault(t, api.ErrName, "fn f(){let a:int=1;if true{}else{@let a:int=2;}}")
	wantFault(t, api.ErrName, "fn f(){let a:int=1;if true{}else if true{}else{@let a:int=2;}}")
	wantFault(t, api.ErrName, "fn f(){if true{let a:int=1;if true{@let a:int=2;}}}")
	wantFault(t, api.ErrName, "fn f(){if true{let a:int=1;if true{}@let a:int=2;}}")
	// Behind the end of its block, a name is free again.
	wantRight(t, "fn f(){if true{let a:int=1;}let a:fix=1.0;}")
	wantRight(t, "fn f(){while true{let a:int=1;}while true{let a:fix=1.0;}}")
	wantRight(t, "fn f(){if true{let a:int=1;}else{let a:fix=1.0;}let a:bool=true;}")
	wantRight(t, "fn f(){if true{let a:int=1;}else if true{let a:fix=1.0;}else{let a:bool=true;}}")
	wantRight(t, "fn f(){let a:int=1;}fn g(){let a:fix=1.0;}")
	wantRight(t, "fn f(){if true{if true{let a:int=1;}let a:fix=1.0;}let a:bool=true;}")
}

// lets are n of them, with names that begin in that way.
func lets(n int, name string) string {
	s := ""
	for i := range n {
		s += "let " + name + strconv.Itoa(i) + ":int=1;"
	}
	return s
}

func TestCountOfLocals(t *testing.T) {
	most := api.MaxLocals
	wantRight(t, "fn f(){"+lets(most, "a")+"}")
	wantRight(t, "fn f(){"+lets(most, "a")+"a0=1;}fn g(){"+lets(most, "a")+"}")
	wantFault(t, api.ErrCount, "fn f(){"+lets(most, "a")+"@let b:int=1;}")
	wantFault(t, api.ErrCount, "fn f(){"+lets(most, "a")+"@let b:int=1;x=1;let c:int=1;}")
	wantFault(t, api.ErrCount, "fn g(){}fn f():int{"+lets(most, "a")+"if true{@let b:int=1;}}")
	// Parameters count, and what is visible no more.
	wantRight(t, "fn f(p:int,q:int,r:int){"+lets(most-3, "a")+"}")
	wantFault(t, api.ErrCount, "fn f(p:int,q:int,r:int){"+lets(most-3, "a")+"@let b:int=1;}")
	wantRight(t, "fn f(p:int){if true{"+lets(20, "a")+"}else{"+lets(5, "a")+"}while true{"+lets(6, "a")+"}}")
	wantFault(t, api.ErrCount, "fn f(p:int){if true{"+lets(20, "a")+"}else{"+lets(5, "a")+"}while true{"+lets(6, "a")+"@let a:int=1;}}")
	wantFault(t, api.ErrCount, "fn f(){if true{"+lets(most, "a")+"}@let a0:int=1;}")
	// All other faults of a let come first.
	wantFault(t, api.ErrName, "fn f(){"+lets(most, "a")+"let b:int=@x;}")
	wantFault(t, api.ErrType, "fn f(){"+lets(most, "a")+"@let b:int=1.0;}")
	wantFault(t, api.ErrName, "fn f(){"+lets(most, "a")+"@let f:int=1;}")
	wantFault(t, api.ErrName, "fn f(){"+lets(most, "a")+"@let a31:int=1;}")
	// Other statements do not count.
	wantRight(t, "var g:int;fn f(){"+lets(most, "a")+strings.Repeat("g=1;", 50)+"}")
}

func TestSets(t *testing.T) {
	for kind := api.TyInt; kind <= api.TyEnt; kind++ {
		letter := words()[kind][:1]
		wantTyped(t, "@g"+letter+"=#;", kind)
		wantTyped(t, "@p"+letter+"=#;", kind)
		wantTyped(t, "let n:"+words()[kind]+"=p"+letter+";while pb{@n=#;}", kind)
	}
	for _, s := range []string{"none", "ai", "hi", "h", "f", "kill", "tofix", "tick"} {
		wantBodyFault(t, api.ErrName, "@"+s+"=1;")
		// The name comes ahead of the expression.
		wantBodyFault(t, api.ErrName, "@"+s+"=none2;")
		wantBodyFault(t, api.ErrName, "@"+s+"=1+true;")
	}
	wantBodyFault(t, api.ErrName, "gi=@none;")
	wantBodyFault(t, api.ErrType, "gi=1@+1.0;")
	wantBodyFault(t, api.ErrType, "gi=@h();")
	wantBodyFault(t, api.ErrName, "@n=1;let n:int=1;")
	wantBodyFault(t, api.ErrName, "if pb{let n:int=1;}@n=1;")
	wantBodyFault(t, api.ErrName, "if pb{let n:int=1;}else{@n=1;}")
	wantBodyFault(t, api.ErrName, "while pb{if pb{let n:int=1;n=2;}@n=3;}")
	wantFault(t, api.ErrName, "fn g(a:int){let b:int=1;}fn f(){@a=1;}")
	wantFault(t, api.ErrName, "fn g(a:int){let b:int=1;}fn f(){@b=1;}")
}

func TestPuts(t *testing.T) {
	for kind := api.TyInt; kind <= api.TyEnt; kind++ {
		array := "a" + words()[kind][:1]
		wantTyped(t, "@"+array+"[0]=#;", kind)
		wantTyped(t, array+"[@#]=p"+words()[kind][:1]+";", api.TyInt)
	}
	for _, s := range []string{"none", "gi", "pi", "hi", "h", "f", "kill", "toint"} {
		wantBodyFault(t, api.ErrName, "@"+s+"[0]=1;")
		wantBodyFault(t, api.ErrName, "@"+s+"[none2]=none3;")
		wantBodyFault(t, api.ErrName, "@"+s+"[1.0]=true;")
	}
	wantBodyFault(t, api.ErrName, "let n:int=1;@n[0]=1;")
	// The index comes ahead of its type, that ahead of the value, and that ahead of its type.
	wantBodyFault(t, api.ErrName, "ai[@none]=none2;")
	wantBodyFault(t, api.ErrType, "ai[1@+1.0]=none;")
	wantBodyFault(t, api.ErrType, "ai[@1.0]=none;")
	wantBodyFault(t, api.ErrType, "ai[1.0@+1.0]=none;")
	wantBodyFault(t, api.ErrType, "ai[@h()]=none;")
	wantBodyFault(t, api.ErrName, "ai[1]=@none;")
	wantBodyFault(t, api.ErrType, "ai[1]=1@+1.0;")
	wantBodyFault(t, api.ErrType, "ai[1]=@h();")
	wantBodyFault(t, api.ErrType, "@ai[1]=1.0;")
	// No index is too great for it.
	wantBody(t, "ai[9223372036854775807]=1;ai[-1]=1;")
}

func TestConditions(t *testing.T) {
	for _, s := range []string{"if", "while"} {
		wantTyped(t, s+" @#{}", api.TyBool)
		wantBodyFault(t, api.ErrType, s+" @1{none=1;}")
		wantBodyFault(t, api.ErrName, s+" @none{none=1;}")
		wantBodyFault(t, api.ErrType, s+" @h(){none=1;}")
		wantBodyFault(t, api.ErrType, s+" 1@+1{none=1;}")
		wantBodyFault(t, api.ErrType, s+" @-1{none=1;}")
		wantBodyFault(t, api.ErrName, s+" true{@none=1;}none2=1;")
		wantBodyFault(t, api.ErrName, s+" true{}@none=1;")
		wantBodyFault(t, api.ErrName, s+" true{gi=1;"+s+" false{@none=1;}none2=1;}")
	}
	wantBodyFault(t, api.ErrName, "if true{@none=1;}else{none2=1;}")
	wantBodyFault(t, api.ErrName, "if true{gi=1;}else{@none=1;}none2=1;")
	wantBodyFault(t, api.ErrType, "if @1{}else{none=1;}")
	wantBodyFault(t, api.ErrType, "if true{}else if @1{}else{none=1;}")
	wantBodyFault(t, api.ErrName, "if true{}else if true{}else{@none=1;}")
}

func TestReturns(t *testing.T) {
	for want := api.TyInt; want <= api.TyEnt; want++ {
		before := world + "fn f(pi:int,pf:fix,pb:bool,pe:ent):" + words()[want] + "{"
		for kind := api.TyInt; kind <= api.TyEnt; kind++ {
			for _, s := range valuesOf(kind) {
				wantBodyFault(t, api.ErrReturn, "@return "+s+";")
				if kind == want {
					wantRight(t, before+"return "+s+";}")
				} else {
					wantFault(t, api.ErrType, before+"@return "+s+";}")
				}
			}
		}
		wantFault(t, api.ErrReturn, before+"@return;}")
		wantFault(t, api.ErrName, before+"return @none;}")
		wantFault(t, api.ErrType, before+"return @h();}")
	}
	wantBody(t, "return;")
	wantBodyFault(t, api.ErrReturn, "@return none;")
	wantBodyFault(t, api.ErrReturn, "@return h();")
	wantBodyFault(t, api.ErrReturn, "if true{while true{@return 1;}}")
}

func TestCallsAsStatements(t *testing.T) {
	for kind := api.TyInt; kind <= api.TyEnt; kind++ {
		wantBody(t, "h"+words()[kind][:1]+"();")
	}
	wantBody(t, "h();f(1,1.0,true,null);kill(null);spawn(1.0,1.0,1);tofix(1);toint(1.0);count();score(1,2);")
	for _, s := range []string{"none", "gi", "ai", "pi", "tick", "input"} {
		wantBodyFault(t, api.ErrName, "@"+s+"();")
		wantBodyFault(t, api.ErrName, "@"+s+"(none2,1+1.0);")
	}
	wantBodyFault(t, api.ErrName, "let n:int=1;@n();")
	wantBodyFault(t, api.ErrType, "tofix(@h());")
}

// P11.3: expressions

func TestNames(t *testing.T) {
	for _, s := range []string{"none", "ai", "hi", "h", "f", "kill", "tofix", "tick"} {
		wantBodyFault(t, api.ErrName, "gi=@"+s+";")
		wantBodyFault(t, api.ErrName, "gi=-@"+s+";")
		wantBodyFault(t, api.ErrName, "f(1,1.0,true,@"+s+");")
	}
	// A name that is visible no more, or not yet.
	wantBodyFault(t, api.ErrName, "if pb{let n:int=1;}gi=@n;")
	wantBodyFault(t, api.ErrName, "if pb{let n:int=1;}else{gi=@n;}")
	wantBodyFault(t, api.ErrName, "while pb{gi=@n;let n:int=1;}")
	wantBody(t, "let n:int=1;while pb{if pb{}else if pb{gi=n;}}gi=n;")
	wantBody(t, "if pb{let n:int=1;gi=n;}else{let n:fix=1.0;gf=n;}let n:ent=pe;ge=n;")
	wantFault(t, api.ErrName, "fn g(a:int){}fn f():int{return @a;}")
}

func TestIndexes(t *testing.T) {
	for kind := api.TyInt; kind <= api.TyEnt; kind++ {
		letter := words()[kind][:1]
		wantTyped(t, "g"+letter+"=a"+letter+"[@#];", api.TyInt)
	}
	for _, s := range []string{"none", "gi", "pi", "hi", "h", "f", "kill", "tofix"} {
		wantBodyFault(t, api.ErrName, "gi=@"+s+"[1];")
		wantBodyFault(t, api.ErrName, "gi=@"+s+"[none2];")
		wantBodyFault(t, api.ErrName, "gi=@"+s+"[1.0];")
	}
	wantBodyFault(t, api.ErrName, "gi=ai[@none];")
	wantBodyFault(t, api.ErrType, "gi=ai[@h()];")
	wantBodyFault(t, api.ErrType, "gi=ai[1.0@+1.0];")
	wantBodyFault(t, api.ErrType, "gi=ai[ai[@1.0]];")
	wantBodyFault(t, api.ErrType, "gi=ai[@af[1]];")
	wantBody(t, "gi=ai[ai[ai[pi]+1]];")
}

// callables are all functions of the world and of the engine.
func callables() []api.Sys {
	return append(provided(),
		api.Sys{Name: "hi", Result: api.TyInt},
		api.Sys{Name: "h"},
		api.Sys{Name: "h3", Params: []int{api.TyInt, api.TyFix, api.TyEnt}},
		api.Sys{Name: "f", Params: []int{api.TyInt, api.TyFix, api.TyBool, api.TyEnt}},
	)
}

// wantCall asks of a call that is right, but for its result, what becomes of it.
func wantCall(t *testing.T, s string, result int) {
	t.Helper()
	wantBody(t, s+";")
	if result == 0 {
		for _, use := range []string{"gi=@#;", "let n:int=@#;", "if @#{}", "ai[@#]=1;", "gi=ai[@#];", "gi=-@#;", "gb=@#==1;", "gi=1+@#;", "gb=!@#;", "tofix(@#);", "gb=@#==#;"} {
			wantBodyFault(t, api.ErrType, strings.ReplaceAll(use, "#", s))
		}
		wantBodyFault(t, api.ErrReturn, "@return "+s+";")
		return
	}
	wantBody(t, "g"+words()[result][:1]+"="+s+";")
	for kind := api.TyInt; kind <= api.TyEnt; kind++ {
		if kind != result {
			wantBodyFault(t, api.ErrType, "@g"+words()[kind][:1]+"="+s+";")
		}
	}
}

func TestCalls(t *testing.T) {
	for _, f := range callables() {
		args := []string{}
		for _, kind := range f.Params {
			args = append(args, "p"+words()[kind][:1])
		}
		call := func(l []string) string { return f.Name + "(" + strings.Join(l, ",") + ")" }
		wantCall(t, call(args), f.Result)
		for i, want := range f.Params {
			for kind := api.TyInt; kind <= api.TyEnt; kind++ {
				for _, s := range valuesOf(kind) {
					with := slices.Clone(args)
					with[i] = s
					if kind == want {
						wantBody(t, call(with)+";")
						continue
					}
					// Whatever is wrong with those behind it.
					for j := i + 1; j < len(with); j++ {
						with[j] = "none"
					}
					with[i] = "@" + s
					wantBodyFault(t, api.ErrType, call(with)+";")
				}
			}
			with := slices.Clone(args)
			with[i] = "@none"
			wantBodyFault(t, api.ErrName, call(with)+";")
			with[i] = "@h()"
			wantBodyFault(t, api.ErrType, call(with)+";")
			with = slices.Delete(slices.Clone(args), i, i+1)
			wantBodyFault(t, api.ErrCount, "@"+call(with)+";")
		}
		// The number of arguments comes ahead of them, and of a result that is missing.
		wantBodyFault(t, api.ErrCount, "@"+call(append(slices.Clone(args), "none"))+";")
		wantBodyFault(t, api.ErrCount, "gi=@"+call(append(slices.Clone(args), "1+1.0"))+";")
		wantBodyFault(t, api.ErrCount, "@"+call(append([]string{"none"}, args...))+";")
	}
	// A name, the number of arguments, the arguments, the result.
	wantBodyFault(t, api.ErrName, "gi=@none(none2);")
	wantBodyFault(t, api.ErrName, "gi=kill(@none);")
	wantBodyFault(t, api.ErrType, "gi=kill(@1);")
	wantBodyFault(t, api.ErrType, "gi=@kill(pe);")
	wantBodyFault(t, api.ErrType, "gi=toint(@toint(1.0));")
	wantBody(t, "gi=toint(tofix(toint(pf)));")
	// Functions know those behind them, and themselves.
	wantRight(t, "fn f(x:int):int{return g(x);}fn g(x:int):int{return f(g(x));}")
}

// operator is how one is written, and the types that it takes.
type operator struct {
	text  string
	takes []int
	truth bool // whether its value is a bool, whatever it takes
}

func unaries() []operator {
	return []operator{{"-", []int{api.TyInt, api.TyFix}, false}, {"!", []int{api.TyBool}, false}}
}

func binaries() []operator {
	number, all := []int{api.TyInt, api.TyFix}, []int{api.TyInt, api.TyFix, api.TyBool, api.TyEnt}
	return []operator{
		{"+", number, false}, {"-", number, false}, {"*", number, false}, {"/", number, false}, {"%", []int{api.TyInt}, false},
		{"<", number, true}, {"<=", number, true}, {">", number, true}, {">=", number, true}, {"==", all, true}, {"!=", all, true},
		{"&&", []int{api.TyBool}, false}, {"||", []int{api.TyBool}, false},
	}
}

// wantOperation asks that an operation has a value of that type alone.
func wantOperation(t *testing.T, s string, result int) {
	t.Helper()
	for kind := api.TyInt; kind <= api.TyEnt; kind++ {
		let := "let n:" + words()[kind] + "=" + strings.Replace(s, "@", "", 1) + ";"
		if kind == result {
			wantBody(t, let)
		} else {
			wantBodyFault(t, api.ErrType, "@"+let)
		}
	}
}

func TestUnary(t *testing.T) {
	for _, o := range unaries() {
		for kind := api.TyInt; kind <= api.TyEnt; kind++ {
			for _, s := range valuesOf(kind) {
				if slices.Contains(o.takes, kind) {
					wantOperation(t, o.text+s, kind)
				} else {
					wantBodyFault(t, api.ErrType, "let n:"+words()[kind]+"=@"+o.text+s+";")
				}
			}
		}
		wantBodyFault(t, api.ErrName, "gi="+o.text+"@none;")
		wantBodyFault(t, api.ErrType, "gi="+o.text+"@h();")
		wantBodyFault(t, api.ErrType, "gi="+o.text+"(1@+1.0);")
	}
	wantBodyFault(t, api.ErrType, "gb=@-!pb;")
	wantBodyFault(t, api.ErrType, "gb=@!-pi;")
	wantBody(t, "gi=--pi;gf=---pf;gb=!!pb;")
}

func TestBoth(t *testing.T) {
	for _, o := range binaries() {
		for left := api.TyInt; left <= api.TyEnt; left++ {
			for right := api.TyInt; right <= api.TyEnt; right++ {
				result := left
				if o.truth {
					result = api.TyBool
				}
				for i, s := range valuesOf(left) {
					s += " @" + o.text + " " + valuesOf(right)[(i+left)%5]
					if left == right && slices.Contains(o.takes, left) {
						wantOperation(t, s, result)
					} else {
						wantBodyFault(t, api.ErrType, "let n:"+words()[result]+"="+s+";")
					}
				}
			}
		}
		wantBodyFault(t, api.ErrName, "gi=@none"+o.text+"none2;")
		wantBodyFault(t, api.ErrName, "gi=null"+o.text+"@none2;")
		wantBodyFault(t, api.ErrType, "gi=@h()"+o.text+"none;")
		wantBodyFault(t, api.ErrType, "gi=null"+o.text+"@h();")
		wantBodyFault(t, api.ErrType, "gi=@h()"+o.text+"h();")
		wantBodyFault(t, api.ErrType, "gi=(1@+1.0)"+o.text+"(1.0*1);")
		wantBodyFault(t, api.ErrType, "gi=null"+o.text+"(1.0@*1);")
	}
}
