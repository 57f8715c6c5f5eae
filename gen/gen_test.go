package gen_test

import (
	"fmt"
	"slices"
	"strconv"
	"strings"
	"testing"

	"tiltyard/api"
	"tiltyard/gen"
	"tiltyard/parse"
)

// tell is anything as text: by it a nil list and an empty one are the same.
func tell(x any) string { return fmt.Sprintf("%+v", x) }

func parsed(t *testing.T, s string) api.Mod {
	t.Helper()
	m, f := parse.Parse(s)
	if f.Code != api.OK {
		t.Fatalf("Parse(%q): %v", s, f)
	}
	return m
}

// imageOf is the image of a source. Whichever it is: each jump has its target
// in the code (P14.5).
func imageOf(t *testing.T, s string) api.Image {
	t.Helper()
	x, e := gen.Gen(parsed(t, s))
	if e != api.OK {
		t.Fatalf("Gen of %q: %v", s, e)
	}
	for _, f := range x.Fns {
		for _, i := range f.Code {
			if (i.Op == api.DoJump || i.Op == api.DoElse) && (i.A < 0 || i.A >= len(f.Code)) {
				t.Errorf("Gen of %q: a jump to %d of %d instructions", s, i.A, len(f.Code))
			}
		}
	}
	return x
}

// instructions are the names of all of them; the first one is number 1.
func instructions() []string {
	return strings.Fields("Push Load Store Get Set At Put AddI SubI MulI DivI ModI NegI AddF SubF MulF DivF NegF Eq Ne Lt Le Gt Ge Not ToFix ToInt Jump Else Call Sys Ret Pop")
}

func types() []string { return []string{"", "int", "fix", "bool", "ent"} }

// assembled reads code as the chapter writes it: `Push 1 bool, Else E, E: Ret`.
func assembled(t *testing.T, text string) []api.Instr {
	t.Helper()
	words := map[string]int{}
	for kind, name := range types() {
		words[name] = kind
	}
	rest, n := []string{}, 0
	for _, word := range strings.Fields(strings.ReplaceAll(text, ",", " ")) {
		if name, isLabel := strings.CutSuffix(word, ":"); isLabel {
			if _, twice := words[name]; twice {
				t.Fatalf("the label %s stands twice in %q", name, text)
			}
			words[name] = n
			continue
		}
		if slices.Contains(instructions(), word) {
			n++
		}
		rest = append(rest, word)
	}
	return instrs(t, rest, words)
}

// instrs reads code without labels; words has what stands for numbers.
func instrs(t *testing.T, text []string, words map[string]int) []api.Instr {
	t.Helper()
	code, operands := []api.Instr{}, 0
	for _, word := range text {
		if op := slices.Index(instructions(), word); op >= 0 {
			code, operands = append(code, api.Instr{Op: op + 1}), 0
			continue
		}
		n, known := words[word]
		if !known {
			var err error
			if n, err = strconv.Atoi(word); err != nil {
				t.Fatalf("%q is no operand", word)
			}
		}
		last := &code[len(code)-1]
		switch operands++; operands {
		case 1:
			last.A = n
		case 2:
			last.B = n
		default:
			t.Fatalf("%q is an operand too much", word)
		}
	}
	return code
}

// shown is code with the index of each instruction.
func shown(code []api.Instr) string {
	l := []string{}
	for k, i := range code {
		l = append(l, fmt.Sprintf("%d:%s %d %d", k, append([]string{"?"}, instructions()...)[i.Op], i.A, i.B))
	}
	return strings.Join(l, ", ")
}

// wantCode asks for the code of the last function of a source.
func wantCode(t *testing.T, source, code string) {
	t.Helper()
	fns := imageOf(t, source).Fns
	got, want := fns[len(fns)-1].Code, assembled(t, code)
	if !slices.Equal(got, want) {
		t.Errorf("Gen of %q:\n%s, want\n%s", source, shown(got), shown(want))
	}
}

func TestExamples(t *testing.T) {
	wantCode(t, "fn f(x:int):int{return x+1;}", "Load 0, Push 1 int, AddI, Ret, Push 0 int, Ret")
	wantCode(t, "fn f(){while true{}}", "Push 1 bool, Else 3, Jump 0, Ret")
	wantCode(t, "var a:bool;fn f(x:bool){a=x&&a;}", "Load 0, Else 4, Get 0, Jump 5, Push 0 bool, Set 0, Ret")
}

// P14.1

func wantImage(t *testing.T, source string, want api.Image) {
	t.Helper()
	if got := imageOf(t, source); tell(got) != tell(want) {
		t.Errorf("Gen of %q: %s, want %s", source, tell(got), tell(want))
	}
}

func TestVariables(t *testing.T) {
	wantImage(t, "", api.Image{})
	wantImage(t, "var a:int;var b:int=5;var c:int=-9223372036854775807;", api.Image{Globs: []api.Glob{{Type: api.TyInt}, {Type: api.TyInt, Value: 5}, {Type: api.TyInt, Value: -api.MaxInt}}})
	wantImage(t, "var a:fix=-0.5;var b:bool=true;var c:bool=false;var d:ent=null;", api.Image{Globs: []api.Glob{{Type: api.TyFix, Value: -api.One / 2}, {Type: api.TyBool, Value: 1}, {Type: api.TyBool}, {Type: api.TyEnt}}})
	wantImage(t, "var a:[1]int;var b:[256]fix;var c:[7]bool;var d:[2]ent;", api.Image{Globs: []api.Glob{{Type: api.TyInt, Size: 1}, {Type: api.TyFix, Size: 256}, {Type: api.TyBool, Size: 7}, {Type: api.TyEnt, Size: 2}}})
}

func TestFunctions(t *testing.T) {
	wantImage(t, "fn f(){}", api.Image{Fns: []api.Fn{{Name: "f", Code: assembled(t, "Ret")}}})
	wantImage(t, "var v:int;fn f(){}fn longer_name(a:ent,b:bool){let c:fix=1.0;if b{let d:int=1;}}", api.Image{
		Globs: []api.Glob{{Type: api.TyInt}},
		Fns: []api.Fn{{Name: "f", Code: assembled(t, "Ret")}, {
			Name:   "longer_name",
			Params: []int{api.TyEnt, api.TyBool},
			Locals: []int{api.TyEnt, api.TyBool, api.TyFix, api.TyInt},
			Code:   assembled(t, "Push 4294967296 fix, Store 2, Load 1, Else E, Push 1 int, Store 3, E: Ret"),
		}},
	})
	wantImage(t, "fn tick(){}fn input(c:int,k:int){}", api.Image{Fns: []api.Fn{
		{Name: "tick", Code: assembled(t, "Ret")},
		{Name: "input", Params: []int{api.TyInt, api.TyInt}, Locals: []int{api.TyInt, api.TyInt}, Code: assembled(t, "Ret")},
	}})
}

func TestResults(t *testing.T) {
	values := []string{"", "1", "1.0", "true", "null"}
	codes := []string{"", "Push 1 int", "Push 4294967296 fix", "Push 1 bool", "Push 0 ent"}
	for kind := api.TyInt; kind <= api.TyEnt; kind++ {
		s := "fn f():" + types()[kind] + "{return " + values[kind] + ";}"
		wantImage(t, s, api.Image{Fns: []api.Fn{{Name: "f", Result: kind, Code: assembled(t, codes[kind]+", Ret, Push 0 "+types()[kind]+", Ret")}}})
	}
	// What stands behind the body is there even if nothing leads to it.
	wantCode(t, "fn f(){return;}", "Ret, Ret")
	wantCode(t, "fn f(b:bool):int{if b{return 1;}else{return 2;}}", "Load 0, Else F, Push 1 int, Ret, Jump E, F: Push 2 int, Ret, E: Push 0 int, Ret")
}

func TestAsManyAsThereMayBe(t *testing.T) {
	s, want := "", []string{}
	for k := range api.MaxVars {
		s += fmt.Sprintf("var v%d:int;", k)
	}
	for k := range api.MaxFuncs {
		next := (k + 1) % api.MaxVars
		s += fmt.Sprintf("fn f%d(){v%d=v%d;f%d();}", k, k, next, next)
		want = append(want, fmt.Sprintf("Get %d, Set %d, Call %d, Ret", next, k, next))
	}
	x := imageOf(t, s)
	if len(x.Globs) != api.MaxVars || len(x.Fns) != api.MaxFuncs {
		t.Fatalf("%d variables, %d functions", len(x.Globs), len(x.Fns))
	}
	for k, f := range x.Fns {
		if f.Name != "f"+strconv.Itoa(k) || !slices.Equal(f.Code, assembled(t, want[k])) {
			t.Errorf("function %d: %+v", k, f)
		}
	}
	s, code := "fn f(a:int,b:int,c:int,d:int,e:int,g:int,h:int,i:int){", ""
	for k := 8; k < api.MaxLocals; k++ {
		s += fmt.Sprintf("let l%d:int=i;l%d=a;", k, k)
		code += fmt.Sprintf("Load 7, Store %d, Load 0, Store %d, ", k, k)
	}
	wantCode(t, s+"}", code+"Ret")
	wantCode(t, "var v:int;fn f(){"+strings.Repeat("v=1;", api.MaxBody)+"}", strings.Repeat("Push 1 int, Set 0, ", api.MaxBody)+"Ret")
	wantCode(t, "var v:int;fn f(){v=1"+strings.Repeat("+1", 4000)+";}", "Push 1 int, "+strings.Repeat("Push 1 int, AddI, ", 4000)+"Set 0, Ret")
}

func TestNesting(t *testing.T) {
	const deep = api.MaxNest - 1 // within the function's block
	wantCode(t, "var v:bool;fn f(){v="+strings.Repeat("!", deep)+"v;}", "Get 0, "+strings.Repeat("Not, ", deep)+"Set 0, Ret")
	s, before, behind := "", "", ""
	for k := range deep {
		s += "while v{"
		before += fmt.Sprintf("L%d: Get 0, Else E%d, ", k, k)
		behind = fmt.Sprintf("Jump L%d, E%d: ", k, k) + behind
	}
	wantCode(t, "var v:bool;fn f(){"+s+strings.Repeat("}", deep+1), before+behind+"Ret")
	s, before, behind = "v", "Get 0, ", ""
	for k := range deep {
		s = "v||(" + s + ")"
		behind += fmt.Sprintf("E%d: ", k)
		before = fmt.Sprintf("Get 0, Else B%d, Push 1 bool, Jump E%d, B%d: ", k, k, k) + before
	}
	wantCode(t, "var v:bool;fn f(){v="+s+";}", before+behind+"Set 0, Ret")
}

func wantRunError(t *testing.T, told any, m api.Mod) {
	t.Helper()
	if x, e := gen.Gen(m); e != api.ErrRun || tell(x) != tell(api.Image{}) {
		t.Errorf("Gen of %v: %v and %s, want ErrRun", told, e, tell(x))
	}
}

func TestFaultsOfTheTree(t *testing.T) {
	for _, s := range []string{
		"fn f(){g();}", "fn f(){v=1;}", "var a:int;var a:int;", "fn kill(){}", "fn f(){let a:int=1;let a:int=2;}", "var a:[2]int;fn f(){a=1;}",
		"fn f(){let a:int=1.0;}", "fn f(){if 1{}}", "fn f():fix{return 1.5%0.5;}", "fn f():bool{return true<false;}", "fn f():int{return -null;}", "fn tick(x:int){}",
		"fn f():int{}", "fn f(){return 1;}", "fn f():int{return;}", "fn f():int{while true{return 1;}}", "fn f():int{if true{return 1;}}",
		"fn f(){kill();}", "fn f(){let a:int=kill(null);}", "fn g(){}fn f(){f(g());}", "var v:int=1;fn f(){v=1;}fn g(){v=h();}",
		"fn f(){let a:int=1;" + strings.Repeat("if true{let b:int=1;}", api.MaxLocals) + "}",
	} {
		wantRunError(t, s, parsed(t, s))
	}
	// The source is short enough, but the text of its tree is not.
	dense := "(a:int,b:int){" + strings.Repeat("if a<b{b=a;}", api.MaxBody) + "}"
	wantRunError(t, "a tree with a long text", parsed(t, "fn f"+dense+"fn g"+dense))
	for _, m := range []api.Mod{
		{Vars: []api.Var{{Name: "a"}}},
		{Vars: []api.Var{{Name: "a", Type: 5}}},
		{Vars: []api.Var{{Name: "if", Type: api.TyInt}}},
		{Vars: []api.Var{{Name: "a", Type: api.TyInt, Size: api.MaxArray + 1}}},
		{Funcs: []api.Func{{}}},
		{Funcs: []api.Func{{Name: "f", Type: -1}}},
		{Funcs: []api.Func{{Name: "f", Body: []api.Stmt{{}}}}},
		{Funcs: []api.Func{{Name: "f", Body: []api.Stmt{{Kind: api.StmtCall + 1}}}}},
		{Funcs: []api.Func{{Name: "f", Body: []api.Stmt{{Kind: api.StmtIf}}}}},
		{Funcs: []api.Func{{Name: "f", Body: []api.Stmt{{Kind: api.StmtReturn, Exprs: []api.Expr{{Kind: api.ExprBoth + 1}}}}}}},
		{Funcs: []api.Func{{Name: "f", Body: []api.Stmt{{Kind: api.StmtWhile, Exprs: []api.Expr{{Kind: api.ExprBoth, Op: api.OpAnd}}}}}}},
	} {
		wantRunError(t, tell(m), m)
	}
}
