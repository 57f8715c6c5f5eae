package gen_test

import (
	"maps"
	"slices"
	"strconv"
	"strings"
	"testing"

	"tiltyard/api"
)

// world is what the expressions and statements of these tests can name: a
// variable of each type, an array of each type, functions g, h and k, and behind
// them f with local variables of each type.
const world = "var gi:int;var gf:fix;var gb:bool;var ge:ent;var ai:[3]int;var af:[4]fix;var ab:[5]bool;var ae:[6]ent;" +
	"fn g(a:int,b:fix):int{return a;}fn h(e:ent){}fn k():bool{return gb;}" +
	"fn f(i:int,x:fix,b:bool,e:ent)"

// wantStmts asks for the code of statements, in order: of a function without a
// result, and of one with a result.
func wantStmts(t *testing.T, all map[string]string) {
	t.Helper()
	for _, s := range slices.Sorted(maps.Keys(all)) {
		wantCode(t, world+"{"+s+"}", all[s]+", Ret")
		wantCode(t, world+":ent{"+s+"return e;}", all[s]+", Load 3, Ret, Push 0 ent, Ret")
	}
}

// P14.2

// wantExprs asks for the code of expressions of a type, wherever they stand.
func wantExprs(t *testing.T, kind int, all map[string]string) {
	t.Helper()
	name, k := types()[kind], strconv.Itoa(kind-1)
	letter := name[:1]
	for s, code := range all {
		wantStmts(t, map[string]string{
			"let n:" + name + "=" + s + ";":             code + ", Store 4",
			"g" + letter + "=" + s + ";":                code + ", Set " + k,
			"a" + letter + "[i]=" + s + ";":             "Load 0, " + code + ", Put " + strconv.Itoa(kind+3),
			"if " + s + "==g" + letter + "{}":           code + ", Get " + k + ", Eq, Else End, End:",
			"while g" + letter + "!=" + s + "{}":        "Start: Get " + k + ", " + code + ", Ne, Else End, Jump Start, End:",
			"while k()&&(" + s + "==g" + letter + "){}": "Start: Call 2, Else False, " + code + ", Get " + k + ", Eq, Jump Known, False: Push 0 bool, Known: Else End, Jump Start, End:",
		})
		wantCode(t, world+":"+name+"{return "+s+";}", code+", Ret, Push 0 "+name+", Ret")
	}
}

func parens(all map[string]string) map[string]string {
	in := map[string]string{}
	for s, code := range all {
		in["("+s+")"] = code
	}
	return in
}

func TestConstants(t *testing.T) {
	wantExprs(t, api.TyInt, map[string]string{"0": "Push 0 int", "1": "Push 1 int", "70000": "Push 70000 int", "9223372036854775807": "Push 9223372036854775807 int"})
	wantExprs(t, api.TyFix, map[string]string{"0.0": "Push 0 fix", "1.0": "Push 4294967296 fix", "0.5": "Push 2147483648 fix", "2147483647.5": "Push 9223372034707292160 fix"})
	wantExprs(t, api.TyBool, map[string]string{"(true)": "Push 1 bool", "(false)": "Push 0 bool"})
	wantExprs(t, api.TyEnt, map[string]string{"null": "Push 0 ent"})
}

func TestNamesAndElements(t *testing.T) {
	wantExprs(t, api.TyInt, map[string]string{"i": "Load 0", "gi": "Get 0", "ai[2]": "Push 2 int, At 4", "ai[ai[i]]": "Load 0, At 4, At 4"})
	wantExprs(t, api.TyFix, map[string]string{"x": "Load 1", "gf": "Get 1", "af[gi]": "Get 0, At 5"})
	wantExprs(t, api.TyBool, map[string]string{"b": "Load 2", "gb": "Get 2", "ab[i+1]": "Load 0, Push 1 int, AddI, At 6"})
	wantExprs(t, api.TyEnt, map[string]string{"e": "Load 3", "ge": "Get 3", "ae[ai[0]]": "Push 0 int, At 4, At 7"})
}

func TestArithmetic(t *testing.T) {
	wantExprs(t, api.TyInt, parens(map[string]string{
		"-i": "Load 0, NegI", "- -1": "Push 1 int, NegI, NegI",
		"i+1": "Load 0, Push 1 int, AddI", "i-gi": "Load 0, Get 0, SubI", "gi*i": "Get 0, Load 0, MulI", "1/i": "Push 1 int, Load 0, DivI", "i%2": "Load 0, Push 2 int, ModI",
		"1-2-3":   "Push 1 int, Push 2 int, SubI, Push 3 int, SubI",
		"1-(2-3)": "Push 1 int, Push 2 int, Push 3 int, SubI, SubI",
		"1+2*3":   "Push 1 int, Push 2 int, Push 3 int, MulI, AddI",
		"(1+2)*3": "Push 1 int, Push 2 int, AddI, Push 3 int, MulI",
		"-(i+1)":  "Load 0, Push 1 int, AddI, NegI", "-i+1": "Load 0, NegI, Push 1 int, AddI",
	}))
	wantExprs(t, api.TyFix, parens(map[string]string{
		"-x": "Load 1, NegF", "- -gf": "Get 1, NegF, NegF",
		"x+1.0": "Load 1, Push 4294967296 fix, AddF", "x-gf": "Load 1, Get 1, SubF", "gf*x": "Get 1, Load 1, MulF", "0.5/x": "Push 2147483648 fix, Load 1, DivF",
		"x*x-gf/x": "Load 1, Load 1, MulF, Get 1, Load 1, DivF, SubF",
	}))
}

func TestComparisons(t *testing.T) {
	all := map[string]string{"!b": "Load 2, Not", "!!gb": "Get 2, Not, Not", "!(i<1)": "Load 0, Push 1 int, Lt, Not"}
	for op, name := range map[string]string{"==": "Eq", "!=": "Ne", "<": "Lt", "<=": "Le", ">": "Gt", ">=": "Ge"} {
		all["i"+op+"1"] = "Load 0, Push 1 int, " + name
		all["0.5"+op+"x"] = "Push 2147483648 fix, Load 1, " + name
		all["x+gf"+op+"-x"] = "Load 1, Get 1, AddF, Load 1, NegF, " + name
		if name == "Eq" || name == "Ne" {
			all["b"+op+"true"] = "Load 2, Push 1 bool, " + name
			all["(1<i)"+op+"gb"] = "Push 1 int, Load 0, Lt, Get 2, " + name
			all["e"+op+"null"] = "Load 3, Push 0 ent, " + name
		}
	}
	wantExprs(t, api.TyBool, parens(all))
}

func TestAndOr(t *testing.T) {
	wantExprs(t, api.TyBool, parens(map[string]string{
		"b&&gb":        "Load 2, Else F, Get 2, Jump E, F: Push 0 bool, E:",
		"b||gb":        "Load 2, Else B, Push 1 bool, Jump E, B: Get 2, E:",
		"!(b&&gb)":     "Load 2, Else F, Get 2, Jump E, F: Push 0 bool, E: Not",
		"!b||gb==b":    "Load 2, Not, Else B, Push 1 bool, Jump E, B: Get 2, Load 2, Eq, E:",
		"i<1&&1/i>0":   "Load 0, Push 1 int, Lt, Else F, Push 1 int, Load 0, DivI, Push 0 int, Gt, Jump E, F: Push 0 bool, E:",
		"true&&false":  "Push 1 bool, Else F, Push 0 bool, Jump E, F: Push 0 bool, E:",
		"b&&gb&&k()":   "Load 2, Else F1, Get 2, Jump E1, F1: Push 0 bool, E1: Else F2, Call 2, Jump E2, F2: Push 0 bool, E2:",
		"b&&(gb&&k())": "Load 2, Else F1, Get 2, Else F2, Call 2, Jump E2, F2: Push 0 bool, E2: Jump E1, F1: Push 0 bool, E1:",
		"b||gb||k()":   "Load 2, Else B1, Push 1 bool, Jump E1, B1: Get 2, E1: Else B2, Push 1 bool, Jump E2, B2: Call 2, E2:",
		"b||(gb||k())": "Load 2, Else B1, Push 1 bool, Jump E1, B1: Get 2, Else B2, Push 1 bool, Jump E2, B2: Call 2, E2: E1:",
		"b||gb&&k()":   "Load 2, Else B, Push 1 bool, Jump E1, B: Get 2, Else F, Call 2, Jump E2, F: Push 0 bool, E2: E1:",
		"(b||gb)&&k()": "Load 2, Else B, Push 1 bool, Jump E1, B: Get 2, E1: Else F, Call 2, Jump E2, F: Push 0 bool, E2:",
	}))
}

func TestCalls(t *testing.T) {
	wantExprs(t, api.TyInt, map[string]string{
		"toint(x)": "Load 1, ToInt", "toint(tofix(i))": "Load 0, ToFix, ToInt", "g(i,x)": "Load 0, Load 1, Call 0",
		"g(g(1,0.5),tofix(2))":  "Push 1 int, Push 2147483648 fix, Call 0, Push 2 int, ToFix, Call 0",
		"random(count()+now())": "Sys 11, Sys 13, AddI, Sys 14",
	})
	wantExprs(t, api.TyFix, map[string]string{"tofix(i)": "Load 0, ToFix", "tofix(toint(x))": "Load 1, ToInt, ToFix", "getx(nth(i))": "Load 0, Sys 12, Sys 3"})
	wantExprs(t, api.TyBool, map[string]string{"k()": "Call 2", "alive(e)": "Load 3, Sys 2", "place(e,x,gf)": "Load 3, Load 1, Get 1, Sys 5"})
	wantExprs(t, api.TyEnt, map[string]string{"nth(0)": "Push 0 int, Sys 12", "spawn(x,gf,i)": "Load 1, Get 1, Load 0, Sys 0"})
}

// P14.3

func TestCallsThatAreStatements(t *testing.T) {
	wantStmts(t, map[string]string{
		"h(e);": "Load 3, Call 1", "g(i,x);": "Load 0, Load 1, Call 0, Pop", "k();": "Call 2, Pop",
		"tofix(i);": "Load 0, ToFix, Pop", "toint(x);": "Load 1, ToInt, Pop", "tofix(1);": "Push 1 int, ToFix, Pop",
	})
	wantCode(t, "fn f(){f();}", "Call 0, Ret")
	wantCode(t, "fn f():ent{f();return f();}", "Call 0, Pop, Call 0, Ret, Push 0 ent, Ret")
	for k, f := range api.Calls() {
		args, code := []string{}, ""
		for _, kind := range f.Params {
			args = append(args, "ixbe"[kind-1:kind])
			code += "Load " + strconv.Itoa(kind-1) + ", "
		}
		code += "Sys " + strconv.Itoa(k)
		if f.Result != 0 {
			code += ", Pop"
		}
		wantStmts(t, map[string]string{f.Name + "(" + strings.Join(args, ",") + ");": code})
	}
}

func TestLetSetAndPut(t *testing.T) {
	wantStmts(t, map[string]string{
		"i=i;": "Load 0, Store 0", "x=gf;": "Get 1, Store 1", "b=gb;gb=b;": "Get 2, Store 2, Load 2, Set 2", "ge=e;": "Load 3, Set 3",
		"let n:int=1;let o:fix=x;n=i;o=gf;":  "Push 1 int, Store 4, Load 1, Store 5, Load 0, Store 4, Get 1, Store 5",
		"if b{let n:int=1;}let n:ent=e;n=n;": "Load 2, Else F, Push 1 int, Store 4, F: Load 3, Store 5, Load 5, Store 5",
		"ai[1]=2;":                           "Push 1 int, Push 2 int, Put 4", "af[i]=x;": "Load 0, Load 1, Put 5", "ab[i+1]=!b;": "Load 0, Push 1 int, AddI, Load 2, Not, Put 6", "ae[ai[0]]=ae[1];": "Push 0 int, At 4, Push 1 int, At 7, Put 7",
	})
}

func TestReturns(t *testing.T) {
	wantCode(t, world+"{return;}", "Ret, Ret")
	wantCode(t, world+"{if b{return;}h(e);}", "Load 2, Else F, Ret, F: Load 3, Call 1, Ret")
	wantCode(t, world+":int{return i;return 2;}", "Load 0, Ret, Push 2 int, Ret, Push 0 int, Ret")
	wantCode(t, world+":fix{while b{return x;}return -x;}", "L: Load 2, Else E, Load 1, Ret, Jump L, E: Load 1, NegF, Ret, Push 0 fix, Ret")
}

func TestIfs(t *testing.T) {
	wantStmts(t, map[string]string{
		"if b{}": "Load 2, Else F, F:", "if b{}else{}": "Load 2, Else F, F:", "if b{i=1;}else{}": "Load 2, Else F, Push 1 int, Store 0, F:",
		"if b{i=1;x=gf;}":                   "Load 2, Else F, Push 1 int, Store 0, Get 1, Store 1, F:",
		"if b{i=1;}else{i=2;}":              "Load 2, Else F, Push 1 int, Store 0, Jump E, F: Push 2 int, Store 0, E:",
		"if b{}else{i=2;}i=3;":              "Load 2, Else F, Jump E, F: Push 2 int, Store 0, E: Push 3 int, Store 0",
		"if b{i=1;}else if gb{i=2;}":        "Load 2, Else F1, Push 1 int, Store 0, Jump E1, F1: Get 2, Else F2, Push 2 int, Store 0, F2: E1:",
		"if b{if gb{}else{i=2;}}else{i=3;}": "Load 2, Else F1, Get 2, Else F2, Jump E2, F2: Push 2 int, Store 0, E2: Jump E1, F1: Push 3 int, Store 0, E1:",
		"if b{i=1;}if gb{i=2;}":             "Load 2, Else F1, Push 1 int, Store 0, F1: Get 2, Else F2, Push 2 int, Store 0, F2:",
		// What is known ahead is not left out.
		"if true{i=1;}else{i=2;}": "Push 1 bool, Else F, Push 1 int, Store 0, Jump E, F: Push 2 int, Store 0, E:",
		"if 1<2{}":                "Push 1 int, Push 2 int, Lt, Else F, F:",
	})
	wantCode(t, world+":int{if b{return 1;}else if gb{return 2;}else{return 3;}}",
		"Load 2, Else F1, Push 1 int, Ret, Jump E1, F1: Get 2, Else F2, Push 2 int, Ret, Jump E2, F2: Push 3 int, Ret, E2: E1: Push 0 int, Ret")
}

func TestWhiles(t *testing.T) {
	wantStmts(t, map[string]string{
		"while b{}": "L: Load 2, Else E, Jump L, E:", "while false{}": "L: Push 0 bool, Else E, Jump L, E:",
		"i=0;while i<9{i=i+1;}x=gf;":     "Push 0 int, Store 0, L: Load 0, Push 9 int, Lt, Else E, Load 0, Push 1 int, AddI, Store 0, Jump L, E: Get 1, Store 1",
		"while b{while gb{i=1;}}":        "L1: Load 2, Else E1, L2: Get 2, Else E2, Push 1 int, Store 0, Jump L2, E2: Jump L1, E1:",
		"while b{if gb{i=1;}else{i=2;}}": "L: Load 2, Else E1, Get 2, Else F, Push 1 int, Store 0, Jump E2, F: Push 2 int, Store 0, E2: Jump L, E1:",
		"if b{while gb{}}while b{}":      "Load 2, Else F, L1: Get 2, Else E1, Jump L1, E1: F: L2: Load 2, Else E2, Jump L2, E2:",
		"while b||gb{}":                  "L: Load 2, Else B, Push 1 bool, Jump E1, B: Get 2, E1: Else E2, Jump L, E2:",
	})
}
