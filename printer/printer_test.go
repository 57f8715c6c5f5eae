package printer_test

import (
	"fmt"
	"slices"
	"strings"
	"testing"

	"tiltyard/api"
	"tiltyard/parse"
	"tiltyard/printer"
)

// The parts of trees, as they are in the tables below.

func vars(l ...api.Var) api.Mod { return api.Mod{Vars: l} }

func funcs(l ...api.Func) api.Mod { return api.Mod{Funcs: l} }

// body is the tree of a source that is `fn f(){`, the statements and `}`.
func body(l ...api.Stmt) api.Mod { return funcs(api.Func{Name: "f", Body: l}) }

// value is the tree of a source that is `fn f(){x=`, the expression and `;}`.
func value(e api.Expr) api.Mod { return body(set("x", e)) }

func set(s string, e api.Expr) api.Stmt {
	return api.Stmt{Kind: api.StmtSet, Name: s, Exprs: []api.Expr{e}}
}

func let(s string, kind int, e api.Expr) api.Stmt {
	return api.Stmt{Kind: api.StmtLet, Name: s, Type: kind, Exprs: []api.Expr{e}}
}

func put(s string, at, e api.Expr) api.Stmt {
	return api.Stmt{Kind: api.StmtPut, Name: s, Exprs: []api.Expr{at, e}}
}

func loop(e api.Expr, l ...api.Stmt) api.Stmt {
	return api.Stmt{Kind: api.StmtWhile, Exprs: []api.Expr{e}, Body: l}
}

func choice(e api.Expr, then, otherwise []api.Stmt) api.Stmt {
	return api.Stmt{Kind: api.StmtIf, Exprs: []api.Expr{e}, Body: then, Else: otherwise}
}

func result(l ...api.Expr) api.Stmt { return api.Stmt{Kind: api.StmtReturn, Exprs: l} }

func calling(e api.Expr) api.Stmt { return api.Stmt{Kind: api.StmtCall, Exprs: []api.Expr{e}} }

func stmts(l ...api.Stmt) []api.Stmt { return l }

func name(s string) api.Expr { return api.Expr{Kind: api.ExprName, Name: s} }

func whole(n int) api.Expr { return api.Expr{Kind: api.ExprInt, Num: n} }

func fixed(n int) api.Expr { return api.Expr{Kind: api.ExprFix, Num: n} }

func truth(n int) api.Expr { return api.Expr{Kind: api.ExprBool, Num: n} }

func null() api.Expr { return api.Expr{Kind: api.ExprNull} }

func index(s string, e api.Expr) api.Expr {
	return api.Expr{Kind: api.ExprIndex, Name: s, Args: []api.Expr{e}}
}

func call(s string, args ...api.Expr) api.Expr {
	return api.Expr{Kind: api.ExprCall, Name: s, Args: args}
}

func unary(op int, e api.Expr) api.Expr {
	return api.Expr{Kind: api.ExprUnary, Op: op, Args: []api.Expr{e}}
}

func both(op int, left, right api.Expr) api.Expr {
	return api.Expr{Kind: api.ExprBoth, Op: op, Args: []api.Expr{left, right}}
}

// short spares a message the whole of a long text.
func short(s string) string { return s[:min(len(s), 300)] }

func wantText(t *testing.T, m api.Mod, want string) {
	t.Helper()
	if got, e := printer.Print(m); got != want || e != api.OK {
		t.Errorf("Print: %q, %v, want %q", short(got), e, short(want))
	}
	if e := printer.Right(m); e != api.OK {
		t.Errorf("Right: %v for the tree of %q", e, short(want))
	}
}

func wantError(t *testing.T, told any, m api.Mod, want api.Errno) {
	t.Helper()
	if got, e := printer.Print(m); got != "" || e != want {
		t.Errorf("%v: Print: %q, %v, want %v", told, short(got), e, want)
	}
	if e := printer.Right(m); e != want {
		t.Errorf("%v: Right: %v, want %v", told, e, want)
	}
}

// wantOnly asks that a tree is right, or that it is none.
func wantOnly(t *testing.T, told any, m api.Mod, right bool) {
	t.Helper()
	if !right {
		wantError(t, told, m, api.ErrTree)
	} else if e := printer.Right(m); e != api.OK {
		t.Errorf("%v: Right: %v", told, e)
	}
}

// long is a function with a text that is longer than a source.
var long = api.Func{Name: "f", Body: stmts(calling(call("f", repeated(api.MaxSource/24, name("a_name_of_24_letters_abc"))...)))}

func lengthened(m api.Mod) api.Mod {
	m.Funcs = append(slices.Clone(m.Funcs), long)
	return m
}

// wantValid asks that a tree is valid, or that it is not: this comes first, so
// that a text that is too long as well does not matter.
func wantValid(t *testing.T, told any, m api.Mod, valid bool) {
	t.Helper()
	wantOnly(t, told, m, valid)
	if !valid {
		wantError(t, told, lengthened(m), api.ErrTree)
	}
}

// wantLine asks for the one line of the body of a function.
func wantLine(t *testing.T, s api.Stmt, want string) {
	t.Helper()
	wantText(t, body(s), "fn f() {\n\t"+want+"\n}\n")
}

func wantExpr(t *testing.T, e api.Expr, want string) {
	t.Helper()
	wantLine(t, set("x", e), "x = "+want+";")
	wantLine(t, let("x", api.TyEnt, e), "let x: ent = "+want+";")
	wantLine(t, put("x", e, e), "x["+want+"] = "+want+";")
	wantLine(t, result(e), "return "+want+";")
	wantLine(t, calling(call("x", e, e)), "x("+want+", "+want+");")
	wantLine(t, loop(e), "while "+want+" {\n\t}")
	wantLine(t, choice(e, nil, nil), "if "+want+" {\n\t}")
}

func TestExamples(t *testing.T) {
	for s, want := range map[string]string{
		"fn f(){x=(a-(b-c))*-(1+2);}": "fn f() {\n\tx = (a - (b - c)) * -(1 + 2);\n}\n",
		"fn f(){if(a){}else{if b{}}}": "fn f() {\n\tif a {\n\t} else if b {\n\t}\n}\n",
		"var a:int=0;var b:fix=0.5;":  "var a: int;\nvar b: fix = 0.5;\n",
	} {
		m, f := parse.Parse(s)
		if f != (api.Fault{}) {
			t.Fatal(s, f)
		}
		wantText(t, m, want)
	}
}

// P10.1: texts

func TestNothing(t *testing.T) {
	wantText(t, api.Mod{}, "")
	wantText(t, api.Mod{Vars: []api.Var{}, Funcs: []api.Func{}}, "")
}

func TestVariables(t *testing.T) {
	for want, v := range map[string]api.Var{
		"int":                        {Type: api.TyInt},
		"fix":                        {Type: api.TyFix},
		"bool":                       {Type: api.TyBool},
		"ent":                        {Type: api.TyEnt},
		"int = 7":                    {Type: api.TyInt, Value: 7},
		"int = -7":                   {Type: api.TyInt, Value: -7},
		"int = 4294967296":           {Type: api.TyInt, Value: api.One},
		"int = 9223372036854775807":  {Type: api.TyInt, Value: api.MaxInt},
		"int = -9223372036854775807": {Type: api.TyInt, Value: -api.MaxInt},
		"fix = 1.0":                  {Type: api.TyFix, Value: api.One},
		"fix = 0.5":                  {Type: api.TyFix, Value: api.One / 2},
		"fix = -1.5":                 {Type: api.TyFix, Value: -3 * api.One / 2},
		"fix = 2147483647.5":         {Type: api.TyFix, Value: api.Whole*api.One + api.One/2},
		"fix = -2147483647.0":        {Type: api.TyFix, Value: -api.Whole * api.One},
		"bool = true":                {Type: api.TyBool, Value: 1},
		"[1] int":                    {Type: api.TyInt, Size: 1},
		"[4] fix":                    {Type: api.TyFix, Size: 4},
		"[255] bool":                 {Type: api.TyBool, Size: 255},
		"[256] ent":                  {Type: api.TyEnt, Size: 256},

		"fix = 0.00000000023283064365386962890625":           {Type: api.TyFix, Value: 1},
		"fix = -2147483647.99999999976716935634613037109375": {Type: api.TyFix, Value: -api.MaxInt},
	} {
		v.Name = "a"
		wantText(t, vars(v), "var a: "+want+";\n")
		w := v
		w.Name = "_long_name_of_24_letter9"
		wantText(t, vars(v, w, v), "var a: "+want+";\nvar _long_name_of_24_letter9: "+want+";\nvar a: "+want+";\n")
	}
}

func TestFunctions(t *testing.T) {
	wantText(t, funcs(api.Func{Name: "f"}), "fn f() {\n}\n")
	for kind, word := range map[int]string{api.TyInt: "int", api.TyFix: "fix", api.TyBool: "bool", api.TyEnt: "ent"} {
		p := api.Param{Name: "x", Type: kind}
		wantText(t, funcs(api.Func{Name: "g1", Type: kind}), "fn g1(): "+word+" {\n}\n")
		wantText(t, funcs(api.Func{Name: "f", Params: []api.Param{p}}), "fn f(x: "+word+") {\n}\n")
		wantText(t, funcs(api.Func{Name: "f", Params: []api.Param{p, p, {Name: "y", Type: api.TyEnt}}, Type: kind}), "fn f(x: "+word+", x: "+word+", y: ent): "+word+" {\n}\n")
	}
	wantText(t, api.Mod{
		Vars: []api.Var{{Name: "a", Type: api.TyInt}},
		Funcs: []api.Func{
			{Name: "f", Params: []api.Param{{Name: "x", Type: api.TyInt}, {Name: "y", Type: api.TyEnt}}, Type: api.TyBool, Body: stmts(result(truth(1)))},
			{Name: "f", Body: stmts(result())},
		},
	}, "var a: int;\nfn f(x: int, y: ent): bool {\n\treturn true;\n}\nfn f() {\n\treturn;\n}\n")
}

func TestStatements(t *testing.T) {
	wantLine(t, let("t", api.TyInt, whole(1)), "let t: int = 1;")
	wantLine(t, let("t", api.TyFix, whole(1)), "let t: fix = 1;")
	wantLine(t, let("t", api.TyBool, whole(1)), "let t: bool = 1;")
	wantLine(t, let("t", api.TyEnt, whole(1)), "let t: ent = 1;")
	wantLine(t, set("a", name("b")), "a = b;")
	wantLine(t, put("a", name("b"), name("c")), "a[b] = c;")
	wantLine(t, calling(call("g")), "g();")
	wantLine(t, calling(call("g", name("a"))), "g(a);")
	wantLine(t, calling(call("g", name("a"), whole(2), null())), "g(a, 2, null);")
	wantLine(t, result(), "return;")
	wantLine(t, result(name("a")), "return a;")
	wantLine(t, loop(name("a")), "while a {\n\t}")
	wantLine(t, loop(name("a"), set("b", whole(1)), result()), "while a {\n\t\tb = 1;\n\t\treturn;\n\t}")
	wantText(t, body(set("a", whole(1)), result(), set("b", whole(2))), "fn f() {\n\ta = 1;\n\treturn;\n\tb = 2;\n}\n")
}

func TestIfs(t *testing.T) {
	a, b := name("a"), name("b")
	one, two := stmts(set("x", whole(1))), stmts(set("x", whole(1)), result())
	wantLine(t, choice(a, nil, nil), "if a {\n\t}")
	wantLine(t, choice(a, one, nil), "if a {\n\t\tx = 1;\n\t}")
	wantLine(t, choice(a, one, stmts()), "if a {\n\t\tx = 1;\n\t}")
	wantLine(t, choice(a, nil, one), "if a {\n\t} else {\n\t\tx = 1;\n\t}")
	wantLine(t, choice(a, two, two), "if a {\n\t\tx = 1;\n\t\treturn;\n\t} else {\n\t\tx = 1;\n\t\treturn;\n\t}")
	wantLine(t, choice(a, nil, stmts(loop(b))), "if a {\n\t} else {\n\t\twhile b {\n\t\t}\n\t}")
	wantLine(t, choice(a, nil, stmts(choice(b, nil, nil))), "if a {\n\t} else if b {\n\t}")
	wantLine(t, choice(a, one, stmts(choice(b, one, one))), "if a {\n\t\tx = 1;\n\t} else if b {\n\t\tx = 1;\n\t} else {\n\t\tx = 1;\n\t}")
	wantLine(t, choice(a, one, stmts(choice(b, one, stmts(choice(a, nil, two))))),
		"if a {\n\t\tx = 1;\n\t} else if b {\n\t\tx = 1;\n\t} else if a {\n\t} else {\n\t\tx = 1;\n\t\treturn;\n\t}")
	// Another statement beside the if makes a block of the else.
	wantLine(t, choice(a, nil, stmts(choice(b, nil, nil), result())), "if a {\n\t} else {\n\t\tif b {\n\t\t}\n\t\treturn;\n\t}")
	wantLine(t, choice(a, nil, stmts(result(), choice(b, nil, nil))), "if a {\n\t} else {\n\t\treturn;\n\t\tif b {\n\t\t}\n\t}")
	wantLine(t, choice(a, nil, stmts(choice(b, nil, nil), choice(b, nil, nil))), "if a {\n\t} else {\n\t\tif b {\n\t\t}\n\t\tif b {\n\t\t}\n\t}")
	// An if in the block of an if is no else.
	wantLine(t, choice(a, stmts(choice(b, nil, one)), nil), "if a {\n\t\tif b {\n\t\t} else {\n\t\t\tx = 1;\n\t\t}\n\t}")
}

func TestIndentation(t *testing.T) {
	a, b := name("a"), name("b")
	deep := loop(a, choice(b, stmts(set("x", whole(1))), stmts(choice(a, stmts(loop(b, result())), stmts(set("x", whole(2)), loop(a))))), result())
	wantText(t, body(deep, result()), strings.Join([]string{
		"fn f() {",
		"\twhile a {",
		"\t\tif b {",
		"\t\t\tx = 1;",
		"\t\t} else if a {",
		"\t\t\twhile b {",
		"\t\t\t\treturn;",
		"\t\t\t}",
		"\t\t} else {",
		"\t\t\tx = 2;",
		"\t\t\twhile a {",
		"\t\t\t}",
		"\t\t}",
		"\t\treturn;",
		"\t}",
		"\treturn;",
		"}",
		"",
	}, "\n"))
}

func TestAtoms(t *testing.T) {
	wantExpr(t, whole(0), "0")
	wantExpr(t, whole(12), "12")
	wantExpr(t, whole(api.MaxInt), "9223372036854775807")
	wantExpr(t, fixed(0), "0.0")
	wantExpr(t, fixed(1), "0.00000000023283064365386962890625")
	wantExpr(t, fixed(5*api.One/4), "1.25")
	wantExpr(t, fixed(api.MaxInt), "2147483647.99999999976716935634613037109375")
	wantExpr(t, truth(1), "true")
	wantExpr(t, truth(0), "false")
	wantExpr(t, null(), "null")
	wantExpr(t, name("a_1"), "a_1")
	wantExpr(t, index("a", name("b")), "a[b]")
	wantExpr(t, index("a", index("b", whole(1))), "a[b[1]]")
	wantExpr(t, call("g"), "g()")
	wantExpr(t, call("g", whole(1)), "g(1)")
	wantExpr(t, call("g", whole(1), call("h", name("a")), null()), "g(1, h(a), null)")
	// Neither an index nor an argument needs parentheses of its own.
	sum := both(api.OpOr, name("a"), name("b"))
	wantExpr(t, index("a", sum), "a[a || b]")
	wantExpr(t, call("g", sum, sum), "g(a || b, a || b)")
}

// rankedOperator is one of the operators with two operands; what binds more
// strongly has the greater rank.
type rankedOperator struct {
	text     string
	op, rank int
}

const rankCompare = 3

func operators() []rankedOperator {
	return []rankedOperator{
		{"||", api.OpOr, 1}, {"&&", api.OpAnd, 2},
		{"==", api.OpEq, 3}, {"!=", api.OpNe, 3}, {"<", api.OpLt, 3}, {"<=", api.OpLe, 3}, {">", api.OpGt, 3}, {">=", api.OpGe, 3},
		{"+", api.OpAdd, 4}, {"-", api.OpSub, 4}, {"*", api.OpMul, 5}, {"/", api.OpDiv, 5}, {"%", api.OpMod, 5},
	}
}

func TestUnary(t *testing.T) {
	a := name("a")
	for sign, op := range map[string]int{"-": api.OpNeg, "!": api.OpNot} {
		for text, e := range map[string]api.Expr{"1": whole(1), "0.0": fixed(0), "true": truth(1), "null": null(), "a": a, "a[1]": index("a", whole(1)), "g(a, a)": call("g", a, a)} {
			wantExpr(t, unary(op, e), sign+text)
			wantExpr(t, unary(op, unary(api.OpNeg, e)), sign+"-"+text)
			wantExpr(t, unary(op, unary(api.OpNot, unary(op, e))), sign+"!"+sign+text)
		}
		for _, o := range operators() {
			wantExpr(t, unary(op, both(o.op, a, a)), sign+"(a "+o.text+" a)")
			wantExpr(t, unary(op, unary(op, both(o.op, a, a))), sign+sign+"(a "+o.text+" a)")
			wantExpr(t, both(o.op, unary(op, a), unary(op, a)), sign+"a "+o.text+" "+sign+"a")
			wantExpr(t, both(o.op, unary(op, both(o.op, a, a)), whole(1)), sign+"(a "+o.text+" a) "+o.text+" 1")
		}
	}
}

func TestOperators(t *testing.T) {
	a, b, c := name("a"), name("b"), name("c")
	for _, o := range operators() {
		wantExpr(t, both(o.op, a, b), "a "+o.text+" b")
		wantExpr(t, both(o.op, index("a", b), call("g")), "a[b] "+o.text+" g()")
		for _, p := range operators() {
			want := "a " + p.text + " b " + o.text + " c"
			if p.rank < o.rank || p.rank == o.rank && o.rank == rankCompare {
				want = "(a " + p.text + " b) " + o.text + " c"
			}
			wantExpr(t, both(o.op, both(p.op, a, b), c), want)
			want = "a " + o.text + " b " + p.text + " c"
			if p.rank <= o.rank {
				want = "a " + o.text + " (b " + p.text + " c)"
			}
			wantExpr(t, both(o.op, a, both(p.op, b, c)), want)
		}
	}
}

func TestOperatorsTogether(t *testing.T) {
	a, b := name("a"), name("b")
	sum, product, less := both(api.OpAdd, a, b), both(api.OpMul, a, b), both(api.OpLt, a, b)
	wantExpr(t, both(api.OpSub, both(api.OpSub, sum, sum), sum), "a + b - (a + b) - (a + b)")
	wantExpr(t, both(api.OpMul, product, product), "a * b * (a * b)")
	wantExpr(t, both(api.OpEq, less, less), "(a < b) == (a < b)")
	wantExpr(t, both(api.OpAnd, both(api.OpAnd, less, less), both(api.OpOr, less, less)), "a < b && a < b && (a < b || a < b)")
	wantExpr(t, both(api.OpOr, both(api.OpAnd, less, less), both(api.OpAnd, less, less)), "a < b && a < b || a < b && a < b")
	wantExpr(t, both(api.OpLt, sum, both(api.OpMod, sum, product)), "a + b < (a + b) % (a * b)")
	wantExpr(t, unary(api.OpNot, call("g", unary(api.OpNeg, index("a", sum)), less)), "!g(-a[a + b], a < b)")
}

// P10.1: limits

func repeated[T any](n int, part T) []T { return slices.Repeat([]T{part}, n) }

func TestCounts(t *testing.T) {
	p, s := api.Param{Name: "x", Type: api.TyInt}, result()
	for _, more := range []int{-1, 0, 1, 2} {
		right := more <= 0
		wantValid(t, more, vars(repeated(64+more, api.Var{Name: "a", Type: api.TyInt})...), right)
		wantValid(t, more, funcs(repeated(64+more, api.Func{Name: "f"})...), right)
		wantValid(t, more, funcs(api.Func{Name: "f", Params: repeated(8+more, p)}), right)
		long := repeated(400+more, s)
		wantValid(t, more, body(long...), right)
		wantValid(t, more, body(loop(name("a"), long...)), right)
		wantValid(t, more, body(choice(name("a"), long, nil)), right)
		wantValid(t, more, body(choice(name("a"), nil, long)), right)
		wantValid(t, more, body(choice(name("a"), nil, stmts(choice(name("a"), nil, long)))), right)
		wantValid(t, more, vars(api.Var{Name: "a", Type: api.TyInt, Size: 256 + more}), right)
	}
	// Each of these lists is full, and none is too long.
	wantValid(t, "full", body(choice(name("a"), repeated(400, s), repeated(400, s)), loop(name("a"), repeated(400, s)...)), true)
	// The number of arguments has no limit of its own.
	wantValid(t, "args", value(call("g", repeated(5000, whole(1))...)), true)
}

// sized is a tree with a text of that many bytes, from 2000 bytes on.
func sized(size int) api.Mod {
	const ends, statement, name = len("fn f() {\n}\n"), len("\tx = a;\n"), 24
	m, left := body(), size-ends
	add := func(l ...api.Stmt) { m.Funcs[0].Body = append(m.Funcs[0].Body, l...) }
	for left >= 2*(statement+2*name) {
		add(set(strings.Repeat("x", name), api.Expr{Kind: api.ExprName, Name: strings.Repeat("a", name)}))
		left -= statement + 2*name - 2
	}
	for left >= 2*statement {
		add(set("x", api.Expr{Kind: api.ExprName, Name: "a"}))
		left -= statement
	}
	add(set(strings.Repeat("x", left-statement+1), api.Expr{Kind: api.ExprName, Name: "a"}))
	return m
}

func TestLengths(t *testing.T) {
	for size := 2000; size <= api.MaxSource; size += 1 + (api.MaxSource-size)/100 {
		if s, e := printer.Print(sized(size)); len(s) != size || e != api.OK {
			t.Errorf("%d bytes: %d bytes, %v", size, len(s), e)
		}
	}
	for size := api.MaxSource + 1; size < api.MaxSource+200; size++ {
		wantError(t, size, sized(size), api.ErrLong)
	}
}

func TestLongTexts(t *testing.T) {
	sum := name("a")
	for range 5000 {
		sum = both(api.OpAdd, sum, name("a"))
	}
	// A list may stand in a tree many times over.
	doubled := name("a")
	for range 18 {
		doubled = both(api.OpMul, doubled, doubled)
	}
	full := repeated(400, loop(name("a"), repeated(400, result())...))
	for told, m := range map[string]api.Mod{
		"sum":        value(sum),
		"doubled":    value(doubled),
		"arguments":  value(call("g", repeated(20000, name("a"))...)),
		"statements": body(full...),
		"functions":  funcs(repeated(64, api.Func{Name: "f", Body: full})...),
	} {
		wantError(t, told, m, api.ErrLong)
	}
}

// wrong is a tree with some statements, in the last of which is a wrong one.
func wrong(l ...api.Stmt) api.Mod { return body(append(l, set("x", whole(-1)))...) }

// What is no tree is ErrTree first, then comes the length, then the levels.
func TestErrorsInOrder(t *testing.T) {
	deep := whole(1)
	for range 100 {
		deep = unary(api.OpNeg, deep)
	}
	long := repeated(350, set(strings.Repeat("x", 24), name(strings.Repeat("a", 24))))
	wantError(t, "levels", body(set("x", deep)), api.ErrTree)
	wantError(t, "length", body(long...), api.ErrLong)
	wantError(t, "length, levels", body(append(long, set("x", deep))...), api.ErrLong)
	wantError(t, "levels, length", body(append(stmts(set("x", deep)), long...)...), api.ErrLong)
	wantError(t, "wrong", wrong(), api.ErrTree)
	wantError(t, "length, wrong", wrong(long...), api.ErrTree)
	wantError(t, "levels, wrong", wrong(set("x", deep)), api.ErrTree)
	wantError(t, "length, levels, wrong", wrong(append(long, set("x", deep))...), api.ErrTree)
	wantError(t, "length, at last", lengthened(body()), api.ErrLong)
}

// nest is a way to open levels around an expression or a statement.
type nest struct {
	levels int
	expr   func(api.Expr) api.Expr
	stmt   func(api.Stmt) api.Stmt
}

func nests() map[string]nest {
	a := name("a")
	return map[string]nest{
		"-a":             {levels: 1, expr: func(e api.Expr) api.Expr { return unary(api.OpNeg, e) }},
		"!a":             {levels: 1, expr: func(e api.Expr) api.Expr { return unary(api.OpNot, e) }},
		"a[b]":           {levels: 1, expr: func(e api.Expr) api.Expr { return index("a", e) }},
		"f(a)":           {levels: 1, expr: func(e api.Expr) api.Expr { return call("f", e) }},
		"f(1, a)":        {levels: 1, expr: func(e api.Expr) api.Expr { return call("f", whole(1), e) }},
		"-(a + b)":       {levels: 2, expr: func(e api.Expr) api.Expr { return unary(api.OpNeg, both(api.OpAdd, a, e)) }},
		"-f(a)":          {levels: 2, expr: func(e api.Expr) api.Expr { return unary(api.OpNeg, call("f", e)) }},
		"f(a) + 1":       {levels: 1, expr: func(e api.Expr) api.Expr { return call("f", both(api.OpAdd, e, a)) }},
		"while":          {levels: 1, stmt: func(s api.Stmt) api.Stmt { return loop(a, s) }},
		"if":             {levels: 1, stmt: func(s api.Stmt) api.Stmt { return choice(a, stmts(s), nil) }},
		"else":           {levels: 1, stmt: func(s api.Stmt) api.Stmt { return choice(a, nil, stmts(result(), s)) }},
		"else if":        {levels: 2, stmt: func(s api.Stmt) api.Stmt { return choice(a, nil, stmts(choice(a, stmts(s), nil))) }},
		"else if .. {a}": {levels: 2, stmt: func(s api.Stmt) api.Stmt { return choice(a, nil, stmts(choice(a, nil, stmts(s, result())))) }},
	}
}

func TestLevels(t *testing.T) {
	for told, n := range nests() {
		// As many levels as there are around the innermost part: the body's, and these.
		for depth := range 40 {
			levels, e, s := 1, name("b"), result()
			for range depth {
				levels += n.levels
				if n.expr != nil {
					e = n.expr(e)
				} else {
					s = n.stmt(s)
				}
			}
			wantOnly(t, fmt.Sprint(told, levels), body(set("x", e), s), levels <= api.MaxNest)
			wantOnly(t, fmt.Sprint(told, levels, " in an index"), body(put("x", e, a())), levels+1 <= api.MaxNest || n.stmt != nil)
			wantOnly(t, fmt.Sprint(told, levels, " and ifs"), body(choice(a(), nil, stmts(choice(e, stmts(s), nil)))), levels+2 <= api.MaxNest || n.expr != nil && levels+1 <= api.MaxNest)
		}
	}
}

func a() api.Expr { return name("a") }

// Only parentheses that the text has are levels.
func TestLevelsOfOperands(t *testing.T) {
	for _, o := range operators() {
		for depth := range 40 {
			left, right := a(), a()
			for range depth {
				left, right = both(o.op, left, a()), both(o.op, a(), right)
			}
			parentheses := max(depth-1, 0)
			wantOnly(t, fmt.Sprint(o.text, depth), value(right), 1+parentheses <= api.MaxNest)
			wantOnly(t, fmt.Sprint(o.text, depth), value(left), 1+parentheses <= api.MaxNest || o.rank != rankCompare)
		}
	}
}

// An if behind an else is a level up to the end of the whole chain.
func TestLevelsOfElseIf(t *testing.T) {
	for more := range 40 {
		chain := choice(a(), nil, nil)
		for range more {
			chain = choice(a(), nil, stmts(chain))
		}
		wantOnly(t, more, body(chain), 1+more+1 <= api.MaxNest)
		wantOnly(t, more, body(loop(a(), chain)), 2+more+1 <= api.MaxNest)
	}
}

// W1: whatever the tree is, Print answers, and does not write all of a long text.
func TestDeepTrees(t *testing.T) {
	const depth = 1<<16 - 10
	for told, n := range nests() {
		for code, e := range map[api.Errno]api.Expr{api.ErrLong: name("b"), api.ErrTree: whole(-1)} {
			s := set("x", e)
			for range depth / 2 {
				if n.expr != nil {
					e = n.expr(e)
				} else {
					s = n.stmt(s)
				}
			}
			wantError(t, told, body(set("x", e), s), code)
		}
	}
	for code, e := range map[api.Errno]api.Expr{api.ErrLong: name("b"), api.ErrTree: whole(-1)} {
		left, right, chain := e, e, choice(e, nil, nil)
		for range depth {
			left, right, chain = both(api.OpAdd, left, a()), both(api.OpAdd, a(), right), choice(a(), nil, stmts(chain))
		}
		wantError(t, "left", value(left), code)
		wantError(t, "right", value(right), code)
		wantError(t, "chain", body(chain), code)
	}
}
