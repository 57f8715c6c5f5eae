package check_test

import (
	"slices"
	"strconv"
	"strings"
	"testing"
	"unsafe"

	"tiltyard/api"
	"tiltyard/check"
	"tiltyard/parse"
	"tiltyard/printer"
)

// P11.4

// told is what a checked tree tells: an expression is followed by a colon and
// the first letter of its type, a name by @ and its place, a function by the
// types of its locals. A place that should not be there is told with a !.
func told(m api.Mod) string {
	l := []string{}
	for _, f := range m.Funcs {
		s := f.Name + "["
		for _, kind := range f.Locals {
			s += letter(kind)
		}
		l = append(l, s+"]{"+toldStmts(f.Body)+"}")
	}
	return strings.Join(l, " ")
}

func letter(kind int) string {
	if kind < 0 || kind > api.TyEnt {
		return "?" + strconv.Itoa(kind)
	}
	return "-ifbe"[kind : kind+1]
}

func place(k int) string { return "@" + strconv.Itoa(k) }

func noPlace(k int) string {
	if k == 0 {
		return ""
	}
	return "!" + strconv.Itoa(k)
}

func toldStmts(list []api.Stmt) string {
	s := ""
	for _, x := range list {
		s += toldStmt(x)
	}
	return s
}

func toldStmt(s api.Stmt) string {
	switch s.Kind {
	case api.StmtLet, api.StmtSet:
		return s.Name + place(s.Place) + "=" + toldExpr(s.Exprs[0]) + ";"
	case api.StmtPut:
		return s.Name + place(s.Place) + "[" + toldExpr(s.Exprs[0]) + "]=" + toldExpr(s.Exprs[1]) + ";"
	case api.StmtIf:
		return "if" + noPlace(s.Place) + " " + toldExpr(s.Exprs[0]) + "{" + toldStmts(s.Body) + "}{" + toldStmts(s.Else) + "}"
	case api.StmtWhile:
		return "while" + noPlace(s.Place) + " " + toldExpr(s.Exprs[0]) + "{" + toldStmts(s.Body) + "}"
	case api.StmtReturn:
		return "return" + noPlace(s.Place) + " " + toldExprs(s.Exprs) + ";"
	}
	return noPlace(s.Place) + toldExprs(s.Exprs) + ";"
}

func toldExprs(list []api.Expr) string {
	l := []string{}
	for _, e := range list {
		l = append(l, toldExpr(e))
	}
	return strings.Join(l, ",")
}

func toldExpr(e api.Expr) string {
	kind := ":" + letter(e.Type)
	switch e.Kind {
	case api.ExprName:
		return e.Name + place(e.Place) + kind
	case api.ExprIndex:
		return e.Name + place(e.Place) + "[" + toldExprs(e.Args) + "]" + kind
	case api.ExprCall:
		return e.Name + place(e.Place) + "(" + toldExprs(e.Args) + ")" + kind
	case api.ExprUnary, api.ExprBoth:
		return noPlace(e.Place) + "(" + toldExprs(e.Args) + ")" + kind
	}
	return noPlace(e.Place) + strconv.Itoa(e.Num) + kind
}

func checked(t *testing.T, s string) api.Mod {
	t.Helper()
	m, f := check.Check(parsed(t, s))
	if f != (api.Fault{}) {
		t.Fatalf("Check of %q: %v", short(s), f)
	}
	return m
}

func wantTold(t *testing.T, s, want string) {
	t.Helper()
	if got := told(checked(t, s)); got != want {
		t.Errorf("Check of %q:\n%s, want\n%s", s, got, want)
	}
}

func TestPlacesOfVariables(t *testing.T) {
	const vars = "var g:int;var a:[2]fix;var h:bool;"
	wantTold(t, vars+"fn f(p:int,q:ent){g=p;a[g]=a[p];h=q==null;}",
		"f[ie]{g@-1=p@0:i;a@-2[g@-1:i]=a@-2[p@0:i]:f;h@-3=(q@1:e,0:e):b;}")
	wantTold(t, vars+"fn f(p:int){let t:fix=a[0];let u:bool=h;t=t;u=u;p=p;}",
		"f[ifb]{t@1=a@-2[0:i]:f;u@2=h@-3:b;t@1=t@1:f;u@2=u@2:b;p@0=p@0:i;}")
	// Each function has places of its own.
	wantTold(t, vars+"fn f(){let t:int=1;}fn i(){let u:fix=1.0;let v:ent=null;u=u;}fn k(){}",
		"f[i]{t@0=1:i;} i[fe]{u@0=4294967296:f;v@1=0:e;u@0=u@0:f;} k[]{}")
}

func TestPlacesOfBlocks(t *testing.T) {
	// A place is not used again, where a name is.
	wantTold(t, "fn f(c:bool){if c{let t:int=1;t=t;}else{let t:fix=1.0;t=t;}let t:ent=null;t=t;}",
		"f[bife]{if c@0:b{t@1=1:i;t@1=t@1:i;}{t@2=4294967296:f;t@2=t@2:f;}t@3=0:e;t@3=t@3:e;}")
	wantTold(t, "fn f(c:bool){let s:int=1;while c{let t:int=s;if c{let u:int=t;s=u;}let v:int=t;}let w:int=s;}",
		"f[biiiii]{s@1=1:i;while c@0:b{t@2=s@1:i;if c@0:b{u@3=t@2:i;s@1=u@3:i;}{}v@4=t@2:i;}w@5=s@1:i;}")
	wantTold(t, "fn f(c:bool){if c{let t:int=1;}else if c{let t:int=2;}else{let t:int=3;t=t;}}",
		"f[biii]{if c@0:b{t@1=1:i;}{if c@0:b{t@2=2:i;}{t@3=3:i;t@3=t@3:i;}}}")
}

func TestPlacesOfCalls(t *testing.T) {
	wantTold(t, "fn f(){f();g();h(1);}fn g(){}fn h(x:int):bool{return h(h2());}fn h2():int{return 1;}",
		"f[]{f@0():-;g@1():-;h@2(1:i):b;} g[]{} h[i]{return h@2(h2@3():i):b;} h2[]{return 1:i;}")
	wantTold(t, "fn f(){tofix(1);toint(tofix(2));}", "f[]{tofix@-101(1:i):f;toint@-102(tofix@-101(2:i):f):i;}")
	for k, f := range api.Calls() {
		args, toldArgs := []string{}, []string{}
		for _, kind := range f.Params {
			args = append(args, []string{"", "1", "0.0", "true", "null"}[kind])
			toldArgs = append(toldArgs, []string{"", "1:i", "0:f", "1:b", "0:e"}[kind])
		}
		wantTold(t, "var v:int;fn g(){}fn f(){"+f.Name+"("+strings.Join(args, ",")+");}",
			"g[]{} f[]{"+f.Name+place(-1-k)+"("+strings.Join(toldArgs, ",")+"):"+letter(f.Result)+";}")
	}
}

func TestTypesOfExpressions(t *testing.T) {
	for s, want := range map[string]string{
		"7":                "7:i",
		"0.5":              "2147483648:f",
		"true":             "1:b",
		"false":            "0:b",
		"null":             "0:e",
		"-1":               "(1:i):i",
		"-1.0":             "(4294967296:f):f",
		"!true":            "(1:b):b",
		"1+2":              "(1:i,2:i):i",
		"0.0*0.0":          "(0:f,0:f):f",
		"1%2":              "(1:i,2:i):i",
		"1<2":              "(1:i,2:i):b",
		"0.0>=0.0":         "(0:f,0:f):b",
		"null!=null":       "(0:e,0:e):b",
		"true==false":      "(1:b,0:b):b",
		"true&&1<2":        "(1:b,(1:i,2:i):b):b",
		"nth(1)==null||pb": "((nth@-13(1:i):e,0:e):b,pb@2:b):b",
		"getx(pe)-pf":      "(getx@-4(pe@3:e):f,pf@1:f):f",
	} {
		kind := map[byte]string{'i': "int", 'f': "fix", 'b': "bool", 'e': "ent"}[want[len(want)-1]]
		wantTold(t, "fn f(pi:int,pf:fix,pb:bool,pe:ent){let n:"+kind+"="+s+";}", "f[ifbe"+kind[:1]+"]{n@4="+want+";}")
		wantTold(t, "fn f(pi:int,pf:fix,pb:bool,pe:ent):"+kind+"{return "+s+";}", "f[ifbe]{return "+want+";}")
	}
}

func TestPlacesOfMany(t *testing.T) {
	s, want, names := "", "", []string{}
	for k := range api.MaxVars {
		names = append(names, "v"+strconv.Itoa(k))
		s += "var " + names[k] + ":int;"
	}
	for k := range api.MaxFuncs {
		name, next := "f"+strconv.Itoa(k), (k+1)%api.MaxFuncs
		s += "fn " + name + "(){" + names[k] + "=" + names[next] + ";f" + strconv.Itoa(next) + "();}"
		want += " " + name + "[]{" + names[k] + place(-1-k) + "=" + names[next] + place(-1-next) + ":i;f" + strconv.Itoa(next) + place(next) + "():-;}"
	}
	wantTold(t, s, want[1:])
	s, want = "fn f(a:int,b:int,c:int,d:int,e:int,g:int,h:int,i:int){", "["+strings.Repeat("i", api.MaxLocals)+"]{"
	for k := 8; k < api.MaxLocals; k++ {
		name := "l" + strconv.Itoa(k)
		s += "let " + name + ":int=h;" + name + "=i;"
		want += name + place(k) + "=h@6:i;" + name + place(k) + "=i@7:i;"
	}
	wantTold(t, s+"}", "f"+want+"}")
}

// walk calls the functions for all statements and all expressions of a tree.
func walk(m api.Mod, stmt func(*api.Stmt), expr func(*api.Expr)) {
	for i := range m.Funcs {
		walkStmts(m.Funcs[i].Body, stmt, expr)
	}
}

func walkStmts(list []api.Stmt, stmt func(*api.Stmt), expr func(*api.Expr)) {
	for i := range list {
		stmt(&list[i])
		walkExprs(list[i].Exprs, expr)
		walkStmts(list[i].Body, stmt, expr)
		walkStmts(list[i].Else, stmt, expr)
	}
}

func walkExprs(list []api.Expr, expr func(*api.Expr)) {
	for i := range list {
		expr(&list[i])
		walkExprs(list[i].Args, expr)
	}
}

// littered gives a tree something where the check tells.
func littered(m api.Mod, n int) {
	walk(m, func(s *api.Stmt) { s.Place = n }, func(e *api.Expr) { e.Type, e.Place = n, n })
	for i := range m.Funcs {
		m.Funcs[i].Locals = []int{n, n}
	}
}

// cleared is without what the check tells.
func cleared(m api.Mod) api.Mod {
	littered(m, 0)
	for i := range m.Funcs {
		m.Funcs[i].Locals = nil
	}
	return m
}

const sample = "var g:int=-5;var a:[3]fix;var b:bool=true;var c:fix=1.5;fn h(x:ent):bool{return alive(x);}" +
	"fn f(p:int,q:fix){let t:fix=q+tofix(g);if h(null){let u:int=toint(a[p]);g=u;}else if !b{while p<=3{p=-p;}}else{return;}a[p]=t;kill(null);}"

func TestTheRestIsTheTree(t *testing.T) {
	m := parsed(t, sample)
	got := checked(t, sample)
	if tell(cleared(got)) != tell(m) {
		t.Errorf("Check of %s: %s", tell(m), tell(got))
	}
	want := tell(checked(t, sample))
	// What is there ahead of it does not matter, and what parse tells of offsets does not, either.
	for _, n := range []int{api.MinInt, -101, -1, 1, 2, 3, 4, 77, api.MaxInt} {
		littered(m, n)
		if got, f := check.Check(m); tell(got) != want || f != (api.Fault{}) {
			t.Errorf("Check with %d in it: %v and %s, want %s", n, f, tell(got), want)
		}
	}
	m = parsed(t, sample)
	walk(m, func(s *api.Stmt) { s.At = -s.At }, func(e *api.Expr) { e.At = -e.At })
	m.Vars[0].At, m.Funcs[0].At = api.MinInt, api.MaxInt
	got, f := check.Check(m)
	if tell(cleared(got)) != tell(m) || f != (api.Fault{}) {
		t.Errorf("Check of %s: %v, %s", tell(m), f, tell(got))
	}
}

func TestAnyOffsets(t *testing.T) {
	for _, at := range []int{api.MinInt, -1, 0, 7, api.MaxInt} {
		m := parsed(t, "var kill:int;")
		m.Vars[0].At = at
		wantTreeFault(t, at, m, api.Fault{Code: api.ErrName, At: at})
		m = parsed(t, "fn f(){if 1{}}")
		m.Funcs[0].Body[0].Exprs[0].At = at
		wantTreeFault(t, at, m, api.Fault{Code: api.ErrType, At: at})
		m = parsed(t, "fn f():int{}")
		m.Funcs[0].At = at
		wantTreeFault(t, at, m, api.Fault{Code: api.ErrReturn, At: at})
		m = parsed(t, "fn f(){x=1;}")
		m.Funcs[0].Body[0].At = at
		wantTreeFault(t, at, m, api.Fault{Code: api.ErrName, At: at})
	}
}

// P11.5

// piece is where a list or a text is in memory.
type piece struct{ from, end uintptr }

func pieceOf[T any](l []T) piece {
	from := uintptr(unsafe.Pointer(unsafe.SliceData(l)))
	return piece{from, from + uintptr(cap(l))*unsafe.Sizeof(*new(T))}
}

func pieceOfText(s string) piece {
	from := uintptr(unsafe.Pointer(unsafe.StringData(s)))
	return piece{from, from + uintptr(len(s))}
}

// listsOf are the lists of a tree, textsOf its names.
func listsOf(m api.Mod) []piece {
	l := []piece{pieceOf(m.Vars), pieceOf(m.Funcs)}
	for _, f := range m.Funcs {
		l = append(l, pieceOf(f.Params), pieceOf(f.Body), pieceOf(f.Locals))
	}
	walk(m, func(s *api.Stmt) {
		l = append(l, pieceOf(s.Exprs), pieceOf(s.Body), pieceOf(s.Else))
	}, func(e *api.Expr) {
		l = append(l, pieceOf(e.Args))
	})
	return l
}

func textsOf(m api.Mod) []piece {
	l := []piece{}
	for _, v := range m.Vars {
		l = append(l, pieceOfText(v.Name))
	}
	for _, f := range m.Funcs {
		l = append(l, pieceOfText(f.Name))
		for _, p := range f.Params {
			l = append(l, pieceOfText(p.Name))
		}
	}
	walk(m, func(s *api.Stmt) { l = append(l, pieceOfText(s.Name)) }, func(e *api.Expr) { l = append(l, pieceOfText(e.Name)) })
	return l
}

// wantApart asks that no piece of the one list shares memory with one of the
// other, and no two of the first one with each other.
func wantApart(t *testing.T, told string, l, others []piece) {
	t.Helper()
	for i, x := range l {
		for _, y := range slices.Concat(l[i+1:], others) {
			if x.from < y.end && y.from < x.end {
				t.Errorf("Check of %q: two parts share memory", short(told))
				return
			}
		}
	}
}

// roomy is a list with two more parts in its spare capacity.
func roomy[T any](l []T, spare T) []T { return append(slices.Clone(l), spare, spare)[:len(l)] }

func roomyMod(m api.Mod) api.Mod {
	m.Vars = roomy(m.Vars, api.Var{Name: "spare"})
	m.Funcs = roomy(m.Funcs, api.Func{Name: "spare"})
	for i := range m.Funcs {
		f := &m.Funcs[i]
		f.Params, f.Body, f.Locals = roomy(f.Params, api.Param{Name: "spare"}), roomy(f.Body, api.Stmt{Name: "spare"}), roomy(f.Locals, 99)
	}
	walk(m, func(s *api.Stmt) {
		s.Exprs, s.Body, s.Else = roomy(s.Exprs, api.Expr{Name: "spare"}), roomy(s.Body, api.Stmt{Name: "spare"}), roomy(s.Else, api.Stmt{Name: "spare"})
	}, func(e *api.Expr) {
		e.Args = roomy(e.Args, api.Expr{Name: "spare"})
	})
	return m
}

// whole is a list with its spare capacity.
func whole[T any](l []T) []T { return l[:cap(l)] }

// tellAll is a tree as text, with what is in the spare capacity of its lists.
func tellAll(m api.Mod) string {
	m = api.Mod{Vars: whole(m.Vars), Funcs: slices.Clone(whole(m.Funcs))}
	for i := range m.Funcs {
		f := &m.Funcs[i]
		f.Params, f.Body, f.Locals = whole(f.Params), wholeStmts(f.Body), whole(f.Locals)
	}
	return tell(m)
}

func wholeStmts(l []api.Stmt) []api.Stmt {
	l = slices.Clone(whole(l))
	for i := range l {
		s := &l[i]
		s.Exprs, s.Body, s.Else = wholeExprs(s.Exprs), wholeStmts(s.Body), wholeStmts(s.Else)
	}
	return l
}

func wholeExprs(l []api.Expr) []api.Expr {
	l = slices.Clone(whole(l))
	for i := range l {
		l[i].Args = wholeExprs(l[i].Args)
	}
	return l
}

// wantOwn asks that a check leaves a tree alone, and shares nothing with it.
func wantOwn(t *testing.T, m api.Mod) {
	t.Helper()
	m = roomyMod(m)
	before := tellAll(m)
	got, f := check.Check(m)
	if after := tellAll(m); after != before {
		t.Errorf("Check has changed %s to %s", short(before), short(after))
	}
	wantApart(t, before, listsOf(got), listsOf(m))
	// The texts of an answer may share among each other what no one can change,
	// but none with the argument.
	for _, x := range textsOf(got) {
		wantApart(t, before, []piece{x}, textsOf(m))
	}
	again, g := check.Check(m)
	if tell(again) != tell(got) || f != g {
		t.Errorf("Check of %s: %s, %v, and then %s, %v", short(before), tell(got), f, tell(again), g)
	}
	wantApart(t, before, listsOf(again), listsOf(got))
	// Whatever becomes of the first answer, the second one stays as it is.
	want := tell(again)
	littered(got, 5)
	for i := range got.Funcs {
		clear(whole(got.Funcs[i].Params))
	}
	clear(whole(got.Vars))
	if tell(again) != want || tellAll(m) != before {
		t.Errorf("Check of %s answers memory that is not new", short(before))
	}
}

func TestTreesAreLeftAlone(t *testing.T) {
	for _, s := range []string{sample, "", "fn f(){}", "var a:int;", "fn f(a:int,b:int){let c:int=1;let d:int=2;}fn g(c:int){}",
		"var kill:int;", "fn f(){let a:int=1;if true{g(a+1,a);}}", "fn f(p:int):int{let a:int=1;}"} {
		m := parsed(t, s)
		wantOwn(t, m)
		littered(m, 7)
		wantOwn(t, m)
		if n, f := check.Check(m); f.Code == api.OK {
			wantOwn(t, n)
		}
	}
}

func TestSharedListsBecomeTwo(t *testing.T) {
	args := []api.Expr{{Kind: api.ExprInt, Num: 1, At: 5}}
	call := api.Expr{Kind: api.ExprCall, Name: "tofix", Args: args, At: 4}
	body := []api.Stmt{{Kind: api.StmtCall, Exprs: []api.Expr{call}, At: 3}, {Kind: api.StmtCall, Exprs: []api.Expr{call}, At: 3}}
	loop := api.Stmt{Kind: api.StmtWhile, Exprs: []api.Expr{{Kind: api.ExprBool}}, Body: body}
	m := api.Mod{Funcs: []api.Func{{Name: "f", Body: []api.Stmt{loop, loop}}, {Name: "g", Body: body}}}
	got, f := check.Check(m)
	if f != (api.Fault{}) {
		t.Fatal(f)
	}
	wantApart(t, "shared lists", listsOf(got), listsOf(m))
}

// P11.6

// wantSameAgain asks for what follows of a tree that was checked without a fault.
func wantSameAgain(t *testing.T, m api.Mod) {
	t.Helper()
	n, f := check.Check(m)
	if f.Code != api.OK {
		t.Fatalf("Check of %s: %v", short(tell(m)), f)
	}
	again, g := check.Check(n)
	if tell(again) != tell(n) || g != (api.Fault{}) {
		t.Errorf("Check of the checked tree %s: %v, %s", tell(n), g, tell(again))
	}
	before, e := printer.Print(m)
	behind, e2 := printer.Print(n)
	if before != behind || e != api.OK || e2 != api.OK {
		t.Errorf("Print: %q, %v, and of the checked tree %q, %v", before, e, behind, e2)
	}
	// Its text has the same checked tree, too, but for offsets.
	o, fault := parse.Parse(behind)
	if fault.Code != api.OK {
		t.Fatal(fault)
	}
	if o, fault = check.Check(o); told(o) != told(n) || fault != (api.Fault{}) {
		t.Errorf("Check of %q: %v and %s, want %s", behind, fault, told(o), told(n))
	}
}

func TestCheckedTreesStay(t *testing.T) {
	for _, s := range []string{sample, "", "fn f(){}", "var a:int;var b:[7]fix;", "fn f(a:int,b:int){let c:int=1;let d:int=c;}fn g(c:int){if true{g(c);}else{let d:ent=nth(c);}}"} {
		wantSameAgain(t, parsed(t, s))
	}
}
