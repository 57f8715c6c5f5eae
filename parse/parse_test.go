package parse

import (
	"fmt"
	"strings"
	"testing"
	"unsafe"

	"tiltyard/api"
)

// tell is a tree as text: by it a nil list and an empty one are the same.
func tell(m api.Mod) string { return fmt.Sprintf("%+v", m) }

// short spares a message the whole of a long source.
func short(s string) string { return s[:min(len(s), 300)] }

func wantTree(t *testing.T, s string, want api.Mod) {
	t.Helper()
	if got, f := Parse(s); tell(got) != tell(want) || f != (api.Fault{}) {
		t.Errorf("Parse(%q): %v\n%s, want\n%s", short(s), f, tell(got), tell(want))
	}
}

func wantRight(t *testing.T, s string) {
	t.Helper()
	if _, f := Parse(s); f != (api.Fault{}) {
		t.Errorf("Parse(%q): %v, want no fault", short(s), f)
	}
}

func wantFault(t *testing.T, s string, code api.Errno, at int) {
	t.Helper()
	if got, f := Parse(s); len(got.Vars)+len(got.Funcs) != 0 || f != (api.Fault{Code: code, At: at}) {
		t.Errorf("Parse(%q): %d variables, %d functions, %v, want the fault %d at %d", short(s), len(got.Vars), len(got.Funcs), f, code, at)
	}
}

// wantFaultIn asks for a fault at the token behind the ^, in whose place the
// source has a blank: so no two tokens become one.
func wantFaultIn(t *testing.T, code api.Errno, marked string) {
	t.Helper()
	mark := strings.IndexByte(marked, '^')
	wantFault(t, marked[:mark]+" "+marked[mark+1:], code, mark+1)
}

// The parts of trees, as they are in the tables below.

func vars(l ...api.Var) api.Mod { return api.Mod{Vars: l} }

// body is the tree of a source that is `fn f(){`, the statements and `}`.
func body(l ...api.Stmt) api.Mod {
	return api.Mod{Funcs: []api.Func{{Name: "f", Body: l, At: 3}}}
}

func set(name string, at int, e api.Expr) api.Stmt {
	return api.Stmt{Kind: api.StmtSet, Name: name, Exprs: []api.Expr{e}, At: at}
}

func name(s string, at int) api.Expr { return api.Expr{Kind: api.ExprName, Name: s, At: at} }

func whole(n, at int) api.Expr { return api.Expr{Kind: api.ExprInt, Num: n, At: at} }

func fixed(n, at int) api.Expr { return api.Expr{Kind: api.ExprFix, Num: n, At: at} }

func truth(n, at int) api.Expr { return api.Expr{Kind: api.ExprBool, Num: n, At: at} }

func null(at int) api.Expr { return api.Expr{Kind: api.ExprNull, At: at} }

func index(s string, at int, e api.Expr) api.Expr {
	return api.Expr{Kind: api.ExprIndex, Name: s, Args: []api.Expr{e}, At: at}
}

func call(s string, at int, args ...api.Expr) api.Expr {
	return api.Expr{Kind: api.ExprCall, Name: s, Args: args, At: at}
}

func unary(op, at int, e api.Expr) api.Expr {
	return api.Expr{Kind: api.ExprUnary, Op: op, Args: []api.Expr{e}, At: at}
}

func both(op, at int, left, right api.Expr) api.Expr {
	return api.Expr{Kind: api.ExprBoth, Op: op, Args: []api.Expr{left, right}, At: at}
}

func TestExamples(t *testing.T) {
	wantTree(t, "var a:int=-3;", vars(api.Var{Name: "a", Type: api.TyInt, Value: -3, At: 4}))
	sum := both(api.OpAdd, 28, both(api.OpMul, 24, name("x", 23), fixed(2*api.One, 25)), fixed(api.One, 29))
	wantTree(t, "fn f(x:fix):fix{return x*2.0+1.0;}", api.Mod{Funcs: []api.Func{{
		Name: "f", Params: []api.Param{{Name: "x", Type: api.TyFix}}, Type: api.TyFix, At: 3,
		Body: []api.Stmt{{Kind: api.StmtReturn, Exprs: []api.Expr{sum}, At: 16}},
	}}})
	wantTree(t, "fn f(){if a{}else if b{}}", body(api.Stmt{
		Kind: api.StmtIf, Exprs: []api.Expr{name("a", 10)}, At: 7,
		Else: []api.Stmt{{Kind: api.StmtIf, Exprs: []api.Expr{name("b", 21)}, At: 18}},
	}))
	wantFault(t, "fn f(){a<b<c;}", api.ErrSyntax, 8)
	wantFault(t, "fn f(", api.ErrSyntax, 5)
	wantFault(t, "var a:[0]int;", api.ErrCount, 7)
	wantFault(t, "var a:int=1.5;", api.ErrSyntax, 10)
}

// P9.1

func TestFaultsOfTokens(t *testing.T) {
	wantFault(t, "$", api.ErrToken, 0)
	wantFault(t, "fn f(){a=1 & 2;}", api.ErrToken, 11)
	wantFault(t, "var a:int=007;", api.ErrToken, 10)
	wantFault(t, "var a:int=9223372036854775808;", api.ErrToken, 10)
	wantFault(t, "fn "+strings.Repeat("f", api.MaxName+1)+"(){}", api.ErrToken, 3)
	wantFault(t, strings.Repeat(" ", api.MaxSource+1), api.ErrLong, -1)
	wantFault(t, strings.Repeat("$", 1<<20), api.ErrLong, -1)
}

// A fault of the lexer comes ahead of one of the parser, wherever both are.
func TestFaultsOfTokensComeFirst(t *testing.T) {
	wantFault(t, ") $", api.ErrToken, 2)
	wantFault(t, "var a:[0]int; $", api.ErrToken, 14)
	wantFault(t, "fn f(){x="+strings.Repeat("(", 40)+"$", api.ErrToken, 49)
	wantFault(t, ")"+strings.Repeat(" ", api.MaxSource), api.ErrLong, -1)
}

func TestSyntaxOfVariables(t *testing.T) {
	for _, s := range []string{
		"^;", "^a", "^7", "^int a;", "var^", "var ^;", "var ^if:int;", "var ^7:int;", "var a^", "var a^;", "var a^=1;", "var a ^int;",
		"var a:^", "var a:^;", "var a:^b;", "var a:^7;", "var a:^true;", "var a:^null;", "var a:int^", "var a:int^,", "var a:int ^b:int;", "var a:int;^;",
		"var a:[^", "var a:[^]int;", "var a:[^n]int;", "var a:[^1.5]int;", "var a:[^-1]int;", "var a:[^(4)]int;", "var a:[^[4]]int;",
		"var a:[4^", "var a:[4^int;", "var a:[4^+1]int;", "var a:[4]^", "var a:[4]^;", "var a:[4]^b;", "var a:[4]^[4]int;", "var a:[4]int^", "var a:[4]int^=1;", "var a:int^[4];",
		"var a:int;var b:int;^let c:int=1;", "var a:int;^}", "^let a:int=1;",
	} {
		wantFaultIn(t, api.ErrSyntax, s)
	}
}

func TestSyntaxOfValues(t *testing.T) {
	right := map[string]string{"int": "7 0 -7 -0", "fix": "1.5 0.0 -1.5", "bool": "true false", "ent": "null"}
	for kind := range right {
		for other, values := range right {
			for _, v := range strings.Fields(values) {
				if kind == other {
					wantRight(t, "var a:"+kind+"="+v+";")
					continue
				}
				// A sign may stand ahead of both kinds of numbers, so that the
				// fault is behind it.
				at := len("var a:" + kind + "=")
				if v[0] == '-' && (kind == "int" || kind == "fix") {
					at++
				}
				wantFault(t, "var a:"+kind+"="+v+";", api.ErrSyntax, at)
			}
		}
		for _, s := range []string{"^", "^;", "^a", "^+1", "^!true", "^(1)", "^f()", "^=1", "^==1"} {
			wantFaultIn(t, api.ErrSyntax, "var a:"+kind+"="+s)
		}
	}
	for _, s := range []string{
		"int=-^", "int=-^;", "int=-^-1;", "int=-^a;", "fix=-^-1.5;", "fix=-^1;", "int=-^1.5;", "bool=^-true;", "ent=^-null;", "bool=true^&&true;",
		"int=1^+1;", "fix=1.5^*2.0;", "int=1^,", "int=1^", "ent=null^=null;", "int=1 ^1;", "int=1;^1",
	} {
		wantFaultIn(t, api.ErrSyntax, "var a:"+s)
	}
}

func TestSyntaxOfFunctions(t *testing.T) {
	for _, s := range []string{
		"fn^", "fn ^(){}", "fn ^while(){}", "fn ^7(){}", "fn f^", "fn f^{}", "fn f^:int{}", "fn f(^", "fn f(^,){}", "fn f(^;", "fn f(^int){}", "fn f(^1){}",
		"fn f(a^", "fn f(a^){}", "fn f(a^,b){}", "fn f(a ^int){}", "fn f(a:^){}", "fn f(a:^b){}", "fn f(a:^[4]int){}", "fn f(a:int^", "fn f(a:int^;", "fn f(a:int^=1){}",
		"fn f(a:int ^b:int){}", "fn f(a:int,^", "fn f(a:int,^){}", "fn f(a:int,^,){}", "fn f(a:int,^int){}", "fn f(^(a:int)){}",
		"fn f()^", "fn f()^;", "fn f()^int{}", "fn f():^", "fn f():^{}", "fn f():^f{}", "fn f():^[4]int{}", "fn f():int^", "fn f():int^;", "fn f():int^:int{}",
		"fn f(){^", "fn f(){}^;", "fn f(){}^}", "fn f(){}^a", "fn f(){}^var a:int;", "fn f(){}^{}", "fn f(){^fn g(){}}", "fn f(){^var a:int;}",
		"var a:int;fn f(){}^var b:int;", "fn f(){}fn^", "fn f()^(){}", "fn f(){^)", "fn f(){^]",
	} {
		wantFaultIn(t, api.ErrSyntax, s)
	}
}

func TestSyntaxOfStatements(t *testing.T) {
	for _, s := range []string{
		"^;", "^{}", "^1;", "^(a)=1;", "^-a;", "^else{}", "^int a=1;", "^true;", "^null;", "^=1;", "^(f)();", "^!",
		"a^", "a^;", "a^}", "a ^b", "a^==1;", "a^+1;", "a^<b;", "a^:int=1;", "a=^", "a=^;", "a=1^", "a=1^}", "a=1^,", "a=b^=1;", "a=1;^;", "a=1 ^b=2;",
		"a[^", "a[^]=1;", "a[^;", "a[1^;", "a[1^,2]=1;", "a[1]^", "a[1]^;", "a[1]^(2);", "a[1]^[2]=3;", "a[1]^==2;", "a[1]=^;", "a[1]=2^", "a[1]=2^=3;", "a[1^)=2;",
		"f(^", "f(^;", "f(^,);", "f(1^", "f(1^;", "f(1^]", "f(1,^);", "f(1,^,2);", "f(1 ^2);", "f()^", "f()^}", "f()^+1;", "f()^=1;", "f()^();", "f()^[1];", "f()^==1;", "f(1)^,",
		"let^", "let ^=1;", "let ^let:int=1;", "let ^1:int=1;", "let a^", "let a^=1;", "let a^;", "let a:^", "let a:^=1;", "let a:^b=1;", "let a:^[4]int=1;", "let a:int^", "let a:int^;",
		"let a:int^==1;", "let a:int=^", "let a:int=^;", "let a:int=1^", "let a:int=1^}", "let a^[4]:int=1;", "let a:int=1^=1;",
		"if^", "if ^{}", "if ^;", "if a^", "if a^;", "if a ^b=1;", "if a^)", "if a{^", "if a{}^;", "if a{}^)", "if(a)^;", "if ^let{}", "if a^=1{}",
		"if a{}else^", "if a{}else^;", "if a{}else ^a=1;", "if a{}else ^while b{}", "if a{}else ^else{}", "if a{}else ^return;", "if a{}else ^(b){}", "if a{}else{^", "if a{}else{}^else{}",
		"if a{}else if^", "if a{}else if ^{}", "if a{}else if b^", "if a{}else if b^;", "if a{}else if b{}else^", "if a{}else if b{}else{}^else{}", "if a{}else if b{^", "if a{}else if b{}^)",
		"while^", "while ^{}", "while a^", "while a^;", "while a ^b=1;", "while a{^", "while a{}^;", "while a{}^else{}", "while ^while{}",
		"return^", "return^}", "return ^return;", "return ^let;", "return 1^", "return 1^}", "return 1^,2;", "return 1 ^2;", "return;^;", "return ^{}", "return ^=1;",
	} {
		// The source ends where the fault is, or goes on behind it.
		wantFaultIn(t, api.ErrSyntax, "fn f(){"+s)
		wantFaultIn(t, api.ErrSyntax, "fn f(){while a{"+s)
		if !strings.HasSuffix(s, "^") {
			wantFaultIn(t, api.ErrSyntax, "fn f(){"+s+"}")
		}
	}
}

func TestSyntaxOfExpressions(t *testing.T) {
	for _, s := range []string{
		"^", "^)", "^]", "^}", "^;", "^,", "^*1", "^/1", "^%1", "^+1", "^<1", "^==1", "^&&a", "^||a", "^=", "^:", "^[1]", "^{1}", "^if", "^int", "^fn", "^var", "^else", "^let", "^while", "^return",
		"1 ^1", "1^a", "1^(2)", "1^[2]", "1.5^[2]", "true^(1)", "null^[1]", "1^!", "a^!b", "a^!", "a ^b", "a^1", "a^true", "a^:b", "a^=b",
		"a+^", "a+^+b", "a+^*b", "a*^", "a*^/b", "a/^", "a%^%b", "a-^", "a-^)", "a==^", "a<^", "a<=^>b", "a&&^", "a||^", "a&&^&&b", "a||^||b", "a&&^||b",
		"a<b^<c", "a==b^==c", "a!=b^<=c", "a<b^>=c", "a+b<c+d^!=e", "-a<b^>c", "(a<b)<c^<d", "a&&b<c^<d", "a||b==c^==d",
		"-^", "-^;", "-^*a", "!^", "!^;", "!^&&a", "-!^", "-^+a", "!^==a", "-^)", "--^", "!!^",
		"(^", "(^)", "(1^", "(1^]", "(1^,2)", "(1)^(2)", "(1)^[2]", "(a)^(1)", "(a) ^b", "((1)^", "((1)^]", "(1)^)", "(^;", "(a^;",
		"a[^", "a[^]", "a[1^", "a[1^)", "a[1^,2]", "a[1]^[2]", "a[1]^(2)", "a[1] ^b", "a[1]^]", "a[b[^]]", "a[b[1]^)",
		"f(^", "f(^,)", "f(1^", "f(1^]", "f(1,^)", "f(1,^,2)", "f(1^;", "f()^()", "f()^[1]", "f(1)^(2)", "f() ^a", "f(g(^;", "f(g()^;", "f(1 ^2)", "f(a^:int)",
	} {
		if !strings.HasSuffix(s, "^") {
			s += ";}"
		}
		wantFaultIn(t, api.ErrSyntax, "fn f(){a="+s)
		wantFaultIn(t, api.ErrSyntax, "fn f(){let a:int="+s)
		wantFaultIn(t, api.ErrSyntax, "fn f(){a[1]="+s)
	}
}

// level is a way to open one in an expression: what is written ahead of what is
// inside, with the place of the first token in it that opens a level, and what
// is written behind.
type level struct {
	before string
	at     int
	behind string
}

func levels() []level {
	return []level{
		{"(", 0, ")"}, {"f(", 1, ")"}, {"f(1,", 1, ")"}, {"a[", 1, "]"}, {"-", 0, ""}, {"!", 0, ""},
		{"1+(", 2, ")"}, {"(a+b)*(", 0, ")"}, {"a[1]+a[", 1, "]"},
	}
}

func TestNestingOfExpressions(t *testing.T) {
	for _, l := range levels() {
		for around, end := range map[string]string{
			"fn f(){x=": ";}", "fn f(){let x:int=": ";}", "fn f(){return ": ";}",
			// These blocks open a level as well, but only behind the expression.
			"fn f(){if ": "{}}", "fn f(){while ": "{}}",
		} {
			full := around + strings.Repeat(l.before, api.MaxNest-1)
			wantRight(t, full+"1"+strings.Repeat(l.behind, api.MaxNest-1)+end)
			wantFault(t, full+l.before+"1"+strings.Repeat(l.behind, api.MaxNest)+end, api.ErrNest, len(full)+l.at)
			wantFault(t, full+l.before, api.ErrNest, len(full)+l.at)
			wantFault(t, around+strings.Repeat(l.before, 1000), api.ErrNest, len(full)+l.at)
		}
	}
}

func TestNestingOfStatements(t *testing.T) {
	for _, opening := range []string{"while a{", "if a{", "if a{}else{", "if a{}else if b{"} {
		each := 1
		if strings.Contains(opening, "else if") {
			each = 2 // the if, and its block
		}
		n := (api.MaxNest - 1) / each
		deepest := "fn f(){" + strings.Repeat(opening, n)
		for open := 1 + n*each; open < api.MaxNest; open++ {
			deepest += "while a{"
			n++
		}
		wantRight(t, deepest+strings.Repeat("}", n+1))
		wantRight(t, deepest+"a=1;"+strings.Repeat("}", n+1))
		wantRight(t, deepest+"return 1*2+3<4&&a||b;"+strings.Repeat("}", n+1))
		for _, s := range []string{"while a^{}", "if a^{}", "a^[1]=1;", "f^();", "f^(1);", "a=^-1;", "a=^!b;", "a=^(1);", "a=f^();", "a=b^[1];", "let b:int=1+^-1;", "return ^(a);", "if ^!a{}", "while a<f^(){}"} {
			wantFaultIn(t, api.ErrNest, deepest+s+strings.Repeat("}", n+1))
			wantFaultIn(t, api.ErrNest, deepest+s[:strings.IndexByte(s, '^')+2])
		}
	}
}

// An if that follows an else is a level up to its end, with all that follows it.
func TestNestingOfElseIf(t *testing.T) {
	const more = "else if a{}"
	n := api.MaxNest - 2 // the body, and the block of the last one
	wantRight(t, "fn f(){if a{}"+strings.Repeat(more, n)+"}")
	wantRight(t, "fn f(){if a{}"+strings.Repeat(more, n)+"else{}}")
	wantFaultIn(t, api.ErrNest, "fn f(){if a{}"+strings.Repeat(more, n)+"else if a^{}}")
	wantFaultIn(t, api.ErrNest, "fn f(){if a{}"+strings.Repeat(more, n)+"else if ^-a{}}")
	wantFaultIn(t, api.ErrNest, "fn f(){if a{}"+strings.Repeat(more, n)+"else if a^[1]{}}")
	wantFaultIn(t, api.ErrNest, "fn f(){if a{}"+strings.Repeat(more, n-1)+"else if a{b^[1]=1;}}")
	// One level is left for the if itself, none for its block.
	deep := "fn f(){" + strings.Repeat("while a{", api.MaxNest-2)
	wantRight(t, deep+"if a{}else{}"+strings.Repeat("}", api.MaxNest-1))
	wantFaultIn(t, api.ErrNest, deep+"if a{}else if b^{}")
	deep += "while a{"
	wantFaultIn(t, api.ErrNest, deep+"if a^{}else if b{}")
	// The levels end with the chain.
	wantRight(t, "fn f(){"+strings.Repeat("if a{}"+strings.Repeat(more, n), 20)+"}")
	// An if in the block of an else is no level of its own.
	wantRight(t, "fn f(){"+strings.Repeat("if a{}else{", n)+"if a{}"+strings.Repeat("}", n+1))
}

// The if itself is never too deep, since the block ahead of its else was as
// deep as it is; its condition and its block are.
func TestElseIfThatIsTooDeep(t *testing.T) {
	for open := range 3 {
		chain := "fn f(){" + strings.Repeat("while a{", open) + "if a{}" + strings.Repeat("else if a{}", api.MaxNest-2-open)
		wantRight(t, chain+strings.Repeat("}", open+1))
		wantFaultIn(t, api.ErrNest, chain+"else if a^{}")
		wantFaultIn(t, api.ErrNest, chain+"else if ^!a{}")
		wantFaultIn(t, api.ErrSyntax, chain+"else if ^{}")
	}
}

func TestLevelsEnd(t *testing.T) {
	n := api.MaxNest - 1
	deep := strings.Repeat("(", n) + "1" + strings.Repeat(")", n)
	wantRight(t, "fn f(){x="+deep+"+"+deep+"*"+deep+"<"+deep+";y="+deep+";f("+deep[1:len(deep)-1]+",a["+deep[2:len(deep)-2]+"]);}fn g(){x="+deep+";}")
	signs := strings.Repeat("-", n)
	wantRight(t, "fn f(){x="+signs+"1+"+signs+"1*"+signs+"1&&"+signs+"a;return "+signs+"b;}")
	wantRight(t, "fn f(){x="+signs[1:]+"a[1]+"+signs[1:]+"f(1,2,3)+"+signs[1:]+"(1+2);}")
	blocks := strings.Repeat("while a{", n) + strings.Repeat("}", n)
	wantRight(t, strings.Repeat("fn f(){"+blocks+blocks+"}", 10))
	// What is inside an index or a call is inside the operator ahead of it, too.
	wantFaultIn(t, api.ErrNest, "fn f(){x="+signs+"a^[1];}")
	wantFaultIn(t, api.ErrNest, "fn f(){x="+signs+"f^(1);}")
	wantFaultIn(t, api.ErrNest, "fn f(){x="+signs+"^(1);}")
}

// Neither of these is a level: parameters, the size of an array, the sign of a
// value, an operator between two operands, an if, a while.
func TestNoLevels(t *testing.T) {
	n := api.MaxNest - 1
	wantRight(t, "var a:[4]int;var b:int=-1;fn f(a:int,b:int):int{x="+strings.Repeat("(", n)+"1"+strings.Repeat(")", n)+";}")
	wantRight(t, "fn f(){x=1"+strings.Repeat("-1*2/3%4<5&&6||7", 300)+";}")
	wantRight(t, "fn f(){"+strings.Repeat("if a{}while b{}", 100)+"}")
}

func TestCountOfVariables(t *testing.T) {
	const one = "var a:int;"
	full := strings.Repeat(one, api.MaxVars)
	wantRight(t, full)
	wantRight(t, full+"fn f(){}")
	wantFault(t, full+one, api.ErrCount, len(full))
	wantFault(t, full+"var", api.ErrCount, len(full))
	wantFault(t, full+"var 7;", api.ErrCount, len(full))
	wantFault(t, strings.Repeat(one, 200), api.ErrCount, len(full))
	wantFaultIn(t, api.ErrSyntax, full+"^a")
	wantFaultIn(t, api.ErrSyntax, full+"fn f(){}^var a:int;")
	wantFaultIn(t, api.ErrSyntax, full[:len(full)-1]+"^")
}

func TestCountOfFunctions(t *testing.T) {
	const one = "fn f(){}"
	full := strings.Repeat(one, api.MaxFuncs)
	wantRight(t, full)
	wantRight(t, strings.Repeat("var a:int;", api.MaxVars)+full)
	wantFault(t, full+one, api.ErrCount, len(full))
	wantFault(t, full+"fn", api.ErrCount, len(full))
	wantFault(t, full+"fn(", api.ErrCount, len(full))
	wantFaultIn(t, api.ErrSyntax, full+"^f")
	wantFaultIn(t, api.ErrSyntax, full+"^var a:int;")
}

func TestCountOfParameters(t *testing.T) {
	full := "fn f(" + strings.Repeat("a:int,", api.MaxParams-1) + "a:int"
	wantRight(t, full+"){}")
	wantRight(t, strings.Repeat(full+"){}", 3))
	wantFaultIn(t, api.ErrCount, full+",^b:int){}")
	wantFaultIn(t, api.ErrCount, full+",^b")
	wantFaultIn(t, api.ErrCount, full+",^b;")
	wantFaultIn(t, api.ErrCount, "fn g(a:int){}"+full+",^b:int,c:int){}")
	wantFaultIn(t, api.ErrSyntax, full+",^){}")
	wantFaultIn(t, api.ErrSyntax, full+",^7:int){}")
	wantFaultIn(t, api.ErrSyntax, full+"^;")
	// Only parameters are limited, not arguments.
	wantRight(t, "fn f(){f(1"+strings.Repeat(",1", 1000)+");}")
}

func TestCountOfStatements(t *testing.T) {
	for _, one := range []string{"f();", "a=1;", "a[1]=2;", "let a:int=1;", "if a{}", "while a{}", "return;", "if a{}else if b{}else{}"} {
		full := strings.Repeat(one, api.MaxBody)
		wantRight(t, "fn f(){"+full+"}")
		wantRight(t, "fn f(){while a{"+full+"}b=1;}fn g(){"+full[:len(one)*2]+"}")
		wantFaultIn(t, api.ErrCount, "fn f(){"+full+"^"+one+"}")
		wantFaultIn(t, api.ErrCount, "fn f(){while a{}if b{"+full+"^"+one)
		wantFaultIn(t, api.ErrCount, "fn f(){if b{}else{"+full+"^"+one)
		wantFaultIn(t, api.ErrSyntax, "fn f(){"+full+"^")
		wantFaultIn(t, api.ErrSyntax, "fn f(){"+full+"^)")
	}
	full := strings.Repeat("f();", api.MaxBody)
	for _, first := range []string{"let", "a", "if", "while", "return", "a;", "if{"} {
		wantFaultIn(t, api.ErrCount, "fn f(){"+full+"^"+first)
	}
	for _, wrong := range []string{";", "else{}", "1", "(", "{", "fn", "var", "true", "-a;"} {
		wantFaultIn(t, api.ErrSyntax, "fn f(){"+full+"^"+wrong)
	}
	// The ifs behind an else are no statements of a block, nor are blocks counted together.
	wantRight(t, "fn f(){"+strings.Repeat("if a{}else if b{}else if c{}", api.MaxBody)+"}")
	wantRight(t, "fn f(){"+strings.Repeat("if a{f();f();}", api.MaxBody)+"}")
	wantRight(t, "fn f(){if a{"+full+"}else{"+full+"}while a{"+full+"}}fn g(){"+full+"}")
}

func TestCountOfElements(t *testing.T) {
	for _, n := range []int{1, 2, 9, 10, 255, api.MaxArray} {
		wantTree(t, fmt.Sprintf("var a:[%d]bool;", n), vars(api.Var{Name: "a", Type: api.TyBool, Size: n, At: 4}))
	}
	for _, n := range []string{"0", "257", "1000", "65536", "4294967297", "9223372036854775807"} {
		wantFault(t, "var a:["+n+"]int;", api.ErrCount, 7)
		wantFault(t, "var a:["+n, api.ErrCount, 7)
		wantFault(t, "var b:int;var a:[ "+n+";", api.ErrCount, 18)
	}
	wantFault(t, "var a:[0.5]int;", api.ErrSyntax, 7)
	wantFault(t, "var a:[]int;", api.ErrSyntax, 7)
}

// The first fault is that of the first token, whatever its kind.
func TestFirstFault(t *testing.T) {
	deep := strings.Repeat("(", 40)
	wantFaultIn(t, api.ErrSyntax, "fn f(){x=^;y="+deep)
	wantFaultIn(t, api.ErrSyntax, "var a:^;var b:[0]int;")
	wantFaultIn(t, api.ErrCount, "var b:[^0]int;var a:;")
	wantFaultIn(t, api.ErrCount, "var b:[^0];")
	wantFaultIn(t, api.ErrNest, "fn f(){x="+deep[:api.MaxNest-1]+"^("+")")
	wantFaultIn(t, api.ErrSyntax, "fn f(){x="+deep[:api.MaxNest-1]+"^)")
	wantFaultIn(t, api.ErrNest, "fn f(){x="+deep[:api.MaxNest-1]+"^(;var a:[0]int;")
	wantFaultIn(t, api.ErrCount, "fn f(){"+strings.Repeat("f();", api.MaxBody)+"^x="+deep)
	wantFaultIn(t, api.ErrNest, "fn f(){x="+deep[:api.MaxNest-1]+"^(1;"+strings.Repeat("f();", api.MaxBody+1))
	wantFaultIn(t, api.ErrCount, strings.Repeat("var a:int;", api.MaxVars)+"^var a:[0]int;)")
}

// A token that may not stand where it is opens no level.
func TestWrongTokensOpenNoLevels(t *testing.T) {
	deep := "fn f(){x=" + strings.Repeat("(", api.MaxNest-1)
	for _, s := range []string{"1^(", "1^[", "1^{", "^{", "^[", "a ^!b", "^if", "a^{", "f^{", "true^("} {
		wantFaultIn(t, api.ErrSyntax, deep+s)
	}
	for _, s := range []string{"1-^-1", "1-^!a", "a^(", "a^[", "^(", "^-", "^!"} {
		wantFaultIn(t, api.ErrNest, deep+s)
	}
	blocks := "fn f(){" + strings.Repeat("while a{", api.MaxNest-1)
	wantFaultIn(t, api.ErrSyntax, blocks+"^{")
	wantFaultIn(t, api.ErrSyntax, blocks+"^(")
	wantFaultIn(t, api.ErrSyntax, blocks+"while ^{")
	wantFaultIn(t, api.ErrNest, blocks+"while a^{")
	// Here a block is wanted, which would be too deep: but there is none.
	for _, s := range []string{"while a^;", "while a^)", "while a^", "if a^;", "if a^else{}", "if a ^b=1;"} {
		wantFaultIn(t, api.ErrSyntax, blocks+s)
	}
}

// P9.2

func TestNothing(t *testing.T) {
	for _, s := range []string{"", " ", "\n\t\r ", "# fn f(){}", "# a\n# b\n"} {
		wantTree(t, s, api.Mod{})
	}
}

func TestVariables(t *testing.T) {
	for s, want := range map[string]api.Var{
		"int;":                       {Type: api.TyInt},
		"fix;":                       {Type: api.TyFix},
		"bool;":                      {Type: api.TyBool},
		"ent;":                       {Type: api.TyEnt},
		"int=0;":                     {Type: api.TyInt},
		"int=-0;":                    {Type: api.TyInt},
		"int=7;":                     {Type: api.TyInt, Value: 7},
		"int=-7;":                    {Type: api.TyInt, Value: -7},
		"int=- 7;":                   {Type: api.TyInt, Value: -7},
		"int=9223372036854775807;":   {Type: api.TyInt, Value: api.MaxInt},
		"int=-9223372036854775807;":  {Type: api.TyInt, Value: -api.MaxInt},
		"fix=0.0;":                   {Type: api.TyFix},
		"fix=-0.0;":                  {Type: api.TyFix},
		"fix=1.5;":                   {Type: api.TyFix, Value: 3 * api.One / 2},
		"fix=-1.5;":                  {Type: api.TyFix, Value: -3 * api.One / 2},
		"fix=0.1;":                   {Type: api.TyFix, Value: 429496729},
		"fix=-0.1;":                  {Type: api.TyFix, Value: -429496729},
		"fix=-0.00000000001;":        {Type: api.TyFix},
		"fix=2147483647.9999999999;": {Type: api.TyFix, Value: api.MaxInt},
		"bool=true;":                 {Type: api.TyBool, Value: 1},
		"bool=false;":                {Type: api.TyBool},
		"ent=null;":                  {Type: api.TyEnt},
		"[1]int;":                    {Type: api.TyInt, Size: 1},
		"[4]fix;":                    {Type: api.TyFix, Size: 4},
		"[10]bool;":                  {Type: api.TyBool, Size: 10},
		"[256]ent;":                  {Type: api.TyEnt, Size: 256},
	} {
		want.Name, want.At = "a", 4
		wantTree(t, "var a:"+s, vars(want))
		first := want
		want.Name, want.At = "_b9", len("var a:"+s+" var  ")
		wantTree(t, "var a:"+s+" var  _b9 :"+s, vars(first, want))
	}
}

func TestFunctions(t *testing.T) {
	wantTree(t, "fn f(){}", body())
	wantTree(t, "var a:int;fn  f ( ) {\n}fn g(){}", api.Mod{
		Vars:  []api.Var{{Name: "a", Type: api.TyInt, At: 4}},
		Funcs: []api.Func{{Name: "f", At: 14}, {Name: "g", At: 26}},
	})
	for i, s := range []string{"int", "fix", "bool", "ent"} {
		wantTree(t, "fn f():"+s+"{}", api.Mod{Funcs: []api.Func{{Name: "f", Type: i + 1, At: 3}}})
		wantTree(t, "fn f(x:"+s+"){}", api.Mod{Funcs: []api.Func{{Name: "f", Params: []api.Param{{Name: "x", Type: i + 1}}, At: 3}}})
	}
	wantTree(t, "fn f(a:int,b:fix,c:bool,d:ent,a:ent,f:bool,g:fix,h:int):bool{}", api.Mod{Funcs: []api.Func{{
		Name: "f", Type: api.TyBool, At: 3, Params: []api.Param{
			{Name: "a", Type: api.TyInt}, {Name: "b", Type: api.TyFix}, {Name: "c", Type: api.TyBool}, {Name: "d", Type: api.TyEnt},
			{Name: "a", Type: api.TyEnt}, {Name: "f", Type: api.TyBool}, {Name: "g", Type: api.TyFix}, {Name: "h", Type: api.TyInt},
		},
	}}})
}

// What names stand for is not for this layer to say.
func TestNamesAreNotLookedUp(t *testing.T) {
	wantRight(t, "var a:int;var a:fix;fn a(a:int,a:int){let a:int=a;a[a]=a(a);spawn();tofix=1;}fn a(){}")
	wantRight(t, "fn f():int{}fn g(){return 1;}fn tick(x:ent){if 1{}while null{}x=true+1.5;}")
}

// P9.3

func TestStatements(t *testing.T) {
	wantTree(t, "fn f(){let t:int=1;}", body(api.Stmt{Kind: api.StmtLet, Name: "t", Type: api.TyInt, Exprs: []api.Expr{whole(1, 17)}, At: 7}))
	wantTree(t, "fn f(){let t:fix=1;}", body(api.Stmt{Kind: api.StmtLet, Name: "t", Type: api.TyFix, Exprs: []api.Expr{whole(1, 17)}, At: 7}))
	wantTree(t, "fn f(){let t:bool=1;}", body(api.Stmt{Kind: api.StmtLet, Name: "t", Type: api.TyBool, Exprs: []api.Expr{whole(1, 18)}, At: 7}))
	wantTree(t, "fn f(){let t:ent=1;}", body(api.Stmt{Kind: api.StmtLet, Name: "t", Type: api.TyEnt, Exprs: []api.Expr{whole(1, 17)}, At: 7}))
	wantTree(t, "fn f(){ a =b;}", body(set("a", 8, name("b", 11))))
	wantTree(t, "fn f(){a[1]=b;}", body(api.Stmt{Kind: api.StmtPut, Name: "a", Exprs: []api.Expr{whole(1, 9), name("b", 12)}, At: 7}))
	wantTree(t, "fn f(){g();}", body(api.Stmt{Kind: api.StmtCall, Exprs: []api.Expr{call("g", 7)}, At: 7}))
	wantTree(t, "fn f(){g(1,x);}", body(api.Stmt{Kind: api.StmtCall, Exprs: []api.Expr{call("g", 7, whole(1, 9), name("x", 11))}, At: 7}))
	wantTree(t, "fn f(){return;}", body(api.Stmt{Kind: api.StmtReturn, At: 7}))
	wantTree(t, "fn f(){return 1;}", body(api.Stmt{Kind: api.StmtReturn, Exprs: []api.Expr{whole(1, 14)}, At: 7}))
	wantTree(t, "fn f(){while a{}}", body(api.Stmt{Kind: api.StmtWhile, Exprs: []api.Expr{name("a", 13)}, At: 7}))
	wantTree(t, "fn f(){while a{b=1;c=2;}d=3;}", body(
		api.Stmt{Kind: api.StmtWhile, Exprs: []api.Expr{name("a", 13)}, Body: []api.Stmt{set("b", 15, whole(1, 17)), set("c", 19, whole(2, 21))}, At: 7},
		set("d", 24, whole(3, 26))))
}

func TestIfs(t *testing.T) {
	choice := func(at int, e api.Expr, then, otherwise []api.Stmt) api.Stmt {
		return api.Stmt{Kind: api.StmtIf, Exprs: []api.Expr{e}, Body: then, Else: otherwise, At: at}
	}
	list := func(l ...api.Stmt) []api.Stmt { return l }
	wantTree(t, "fn f(){if a{}}", body(choice(7, name("a", 10), nil, nil)))
	wantTree(t, "fn f(){if(a){}else{}}", body(choice(7, name("a", 10), nil, nil)))
	wantTree(t, "fn f(){if a{b=1;}}", body(choice(7, name("a", 10), list(set("b", 12, whole(1, 14))), nil)))
	wantTree(t, "fn f(){if a{}else{b=1;c=2;}}", body(choice(7, name("a", 10), nil, list(set("b", 18, whole(1, 20)), set("c", 22, whole(2, 24))))))
	wantTree(t, "fn f(){if a{}else{if b{}}}", body(choice(7, name("a", 10), nil, list(choice(18, name("b", 21), nil, nil)))))
	wantTree(t, "fn f(){if a{x=1;}else if b{y=2;}else{z=3;}w=4;}", body(
		choice(7, name("a", 10), list(set("x", 12, whole(1, 14))), list(
			choice(22, name("b", 25), list(set("y", 27, whole(2, 29))), list(set("z", 37, whole(3, 39)))))),
		set("w", 42, whole(4, 44))))
	wantTree(t, "fn f(){if a{}if b{}else{}}", body(choice(7, name("a", 10), nil, nil), choice(13, name("b", 16), nil, nil)))
}

// P9.4

func wantExpr(t *testing.T, s string, want api.Expr) {
	t.Helper()
	// Offsets are told from the start of the expression.
	wantTree(t, "fn f(){a="+s+";}", body(set("a", 7, moved(want, 9))))
	wantTree(t, "fn f(){a=("+s+");}", body(set("a", 7, moved(want, 10))))
}

func moved(e api.Expr, by int) api.Expr {
	e.At += by
	args := e.Args
	e.Args = nil
	for _, x := range args {
		e.Args = append(e.Args, moved(x, by))
	}
	return e
}

func TestAtoms(t *testing.T) {
	wantExpr(t, "0", whole(0, 0))
	wantExpr(t, "12", whole(12, 0))
	wantExpr(t, "9223372036854775807", whole(api.MaxInt, 0))
	wantExpr(t, "0.0", fixed(0, 0))
	wantExpr(t, "1.25", fixed(5*api.One/4, 0))
	wantExpr(t, "2147483647.9999999999", fixed(api.MaxInt, 0))
	wantExpr(t, "true", truth(1, 0))
	wantExpr(t, "false", truth(0, 0))
	wantExpr(t, "null", null(0))
	wantExpr(t, "x_1", name("x_1", 0))
	wantExpr(t, "x[y]", index("x", 0, name("y", 2)))
	wantExpr(t, "x[y[1]]", index("x", 0, index("y", 2, whole(1, 4))))
	wantExpr(t, "g()", call("g", 0))
	wantExpr(t, "g(1)", call("g", 0, whole(1, 2)))
	wantExpr(t, "g(1, h(x), null)", call("g", 0, whole(1, 2), call("h", 5, name("x", 7)), null(11)))
	wantExpr(t, " g (\n1 )", call("g", 1, whole(1, 5)))
	wantExpr(t, "((x))", name("x", 2))
}

func TestUnary(t *testing.T) {
	wantExpr(t, "-1", unary(api.OpNeg, 0, whole(1, 1)))
	wantExpr(t, "-1.5", unary(api.OpNeg, 0, fixed(3*api.One/2, 1)))
	wantExpr(t, "- 9223372036854775807", unary(api.OpNeg, 0, whole(api.MaxInt, 2)))
	wantExpr(t, "!x", unary(api.OpNot, 0, name("x", 1)))
	wantExpr(t, "!-!x", unary(api.OpNot, 0, unary(api.OpNeg, 1, unary(api.OpNot, 2, name("x", 3)))))
	wantExpr(t, "-x[1]", unary(api.OpNeg, 0, index("x", 1, whole(1, 3))))
	wantExpr(t, "-g(1)", unary(api.OpNeg, 0, call("g", 1, whole(1, 3))))
	wantExpr(t, "-(x+y)", unary(api.OpNeg, 0, both(api.OpAdd, 3, name("x", 2), name("y", 4))))
	wantExpr(t, "-x+y", both(api.OpAdd, 2, unary(api.OpNeg, 0, name("x", 1)), name("y", 3)))
	wantExpr(t, "x--y", both(api.OpSub, 1, name("x", 0), unary(api.OpNeg, 2, name("y", 3))))
	wantExpr(t, "-x*-y", both(api.OpMul, 2, unary(api.OpNeg, 0, name("x", 1)), unary(api.OpNeg, 3, name("y", 4))))
	wantExpr(t, "!x==y", both(api.OpEq, 2, unary(api.OpNot, 0, name("x", 1)), name("y", 4)))
	wantExpr(t, "!x&&y", both(api.OpAnd, 2, unary(api.OpNot, 0, name("x", 1)), name("y", 4)))
}

// The ranks of expressions: what binds more strongly is greater.
const (
	rankExpr = iota
	rankAnd
	rankCmp
	rankSum
	rankTerm
	rankOne
)

type binary struct {
	text     string
	op, rank int
}

func operators() []binary {
	return []binary{
		{"+", api.OpAdd, rankSum}, {"-", api.OpSub, rankSum}, {"*", api.OpMul, rankTerm}, {"/", api.OpDiv, rankTerm}, {"%", api.OpMod, rankTerm},
		{"==", api.OpEq, rankCmp}, {"!=", api.OpNe, rankCmp}, {"<", api.OpLt, rankCmp}, {"<=", api.OpLe, rankCmp}, {">", api.OpGt, rankCmp}, {">=", api.OpGe, rankCmp},
		{"&&", api.OpAnd, rankAnd}, {"||", api.OpOr, rankExpr},
	}
}

func TestOperators(t *testing.T) {
	for _, o := range operators() {
		wantExpr(t, "x"+o.text+"y", both(o.op, 1, name("x", 0), name("y", 1+len(o.text))))
		wantExpr(t, "x \n "+o.text+"\ty", both(o.op, 4, name("x", 0), name("y", 5+len(o.text))))
	}
}

func TestOperatorsTogether(t *testing.T) {
	for _, a := range operators() {
		for _, b := range operators() {
			s := "x" + a.text + "y" + b.text + "z"
			y, z := 1+len(a.text), 2+len(a.text)+len(b.text)
			if a.rank == rankCmp && b.rank == rankCmp {
				wantFault(t, "fn f(){a="+s+";}", api.ErrSyntax, 9+y+1)
			} else if a.rank >= b.rank {
				wantExpr(t, s, both(b.op, y+1, both(a.op, 1, name("x", 0), name("y", y)), name("z", z)))
			} else {
				wantExpr(t, s, both(a.op, 1, name("x", 0), both(b.op, y+1, name("y", y), name("z", z))))
			}
			wantExpr(t, "(x"+a.text+"y)"+b.text+"z", both(b.op, y+3, both(a.op, 2, name("x", 1), name("y", y+1)), name("z", z+2)))
			wantExpr(t, "x"+a.text+"(y"+b.text+"z)", both(a.op, 1, name("x", 0), both(b.op, y+2, name("y", y+1), name("z", z+1))))
		}
	}
}

func TestLongChains(t *testing.T) {
	for _, o := range operators() {
		if o.rank == rankCmp {
			continue
		}
		const n = 2000
		want := name("x", 0)
		for i := range n {
			at := 1 + i*(len(o.text)+1)
			want = both(o.op, at, want, name("y", at+len(o.text)))
		}
		got, f := Parse("fn f(){a=x" + strings.Repeat(o.text+"y", n) + ";}")
		if f != (api.Fault{}) {
			t.Fatal(o, f)
		}
		// The trees are too deep for tell.
		e, want := got.Funcs[0].Body[0].Exprs[0], moved(want, 9)
		for range n {
			if e.Kind != want.Kind || e.Op != want.Op || e.At != want.At || e.Args[1].At != want.Args[1].At || e.Args[1].Name != "y" {
				t.Fatal(o, e.At)
			}
			e, want = e.Args[0], want.Args[0]
		}
		if e.Name != "x" || e.At != 9 || len(e.Args) != 0 {
			t.Error(o, e)
		}
	}
}

// P9.5

type piece struct{ from, end uintptr }

func pieceOf[T any](l []T) piece {
	from := uintptr(unsafe.Pointer(unsafe.SliceData(l)))
	return piece{from, from + uintptr(cap(l))*unsafe.Sizeof(*new(T))}
}

func exprPieces(l []api.Expr) []piece {
	all := []piece{pieceOf(l)}
	for _, e := range l {
		all = append(all, exprPieces(e.Args)...)
	}
	return all
}

func stmtPieces(l []api.Stmt) []piece {
	all := []piece{pieceOf(l)}
	for _, s := range l {
		all = append(all, exprPieces(s.Exprs)...)
		all = append(all, stmtPieces(s.Body)...)
		all = append(all, stmtPieces(s.Else)...)
	}
	return all
}

func modPieces(m api.Mod) []piece {
	all := []piece{pieceOf(m.Vars), pieceOf(m.Funcs)}
	for _, f := range m.Funcs {
		all = append(all, pieceOf(f.Params), pieceOf(f.Locals))
		all = append(all, stmtPieces(f.Body)...)
	}
	return all
}

func wantNoSharedMemory(t *testing.T, s string, l []piece) {
	t.Helper()
	for i, a := range l {
		for _, b := range l[:i] {
			if a.from < b.end && b.from < a.end {
				t.Errorf("two lists of Parse(%q) share memory", short(s))
				return
			}
		}
	}
}

func TestListsAreNew(t *testing.T) {
	const s = `var a:int=1;var b:[3]ent;fn f(x:int,y:fix,z:ent):int{let t:int=x+1*2;a=-t;b[0]=nth(1,2,t);
		if a<t{f(1,2);return 3;}else if !c{g();}else{h(-1);while true{a=a+1;}}return b[t];}fn g(){f(x,y,z);}`
	first, f := Parse(s)
	again, _ := Parse(s)
	if f != (api.Fault{}) {
		t.Fatal(f)
	}
	wantNoSharedMemory(t, s, append(modPieces(first), modPieces(again)...))
}

func namesOf(l []api.Stmt) []string {
	var all []string
	var inside func(l []api.Expr)
	inside = func(l []api.Expr) {
		for _, e := range l {
			all = append(all, e.Name)
			inside(e.Args)
		}
	}
	for _, s := range l {
		all = append(all, s.Name)
		inside(s.Exprs)
		all = append(append(all, namesOf(s.Body)...), namesOf(s.Else)...)
	}
	return all
}

func TestNamesAreNew(t *testing.T) {
	s := strings.Repeat("fn fun(par:int){let loc:int=par;arr[idx]=call(arg);if yes{no();}}", 2)
	m, _ := Parse(s)
	all := namesOf(m.Funcs[0].Body)
	all = append(all, m.Funcs[0].Name, m.Funcs[0].Params[0].Name)
	from := uintptr(unsafe.Pointer(unsafe.StringData(s)))
	for _, x := range all {
		at := uintptr(unsafe.Pointer(unsafe.StringData(x)))
		if x != "" && at >= from && at < from+uintptr(len(s)) {
			t.Errorf("%q is a piece of the source", x)
		}
	}
}

// One call leaves nothing behind for the next, least of all one with a fault.
func TestCallsAreApart(t *testing.T) {
	const right = "fn f(){x=((((1))));}"
	want, _ := Parse(right)
	for _, s := range []string{"", right, "fn f(){x=" + strings.Repeat("(", 40), "var a:[0]int;", ")", "$", strings.Repeat(" ", 20000)} {
		for range 40 {
			Parse(s)
		}
		wantTree(t, right, want)
	}
}
