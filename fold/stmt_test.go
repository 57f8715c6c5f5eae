package fold_test

import (
	"strings"
	"testing"

	"tiltyard/api"
	"tiltyard/fold"
)

func foldedTree(t *testing.T, m api.Mod) api.Mod {
	t.Helper()
	got, e := fold.Fold(m)
	if e != api.OK {
		t.Fatalf("Fold of %s: %v", short(tell(m)), e)
	}
	return got
}

// inBodies are mods in which statements stand in a function without a result,
// and in one with a result. In the first one, return 1 is a return without a value.
func inBodies(s string) []string {
	const head = world + "fn f(i:int,x:fix,b:bool,e:ent)"
	return []string{
		head + "{" + strings.ReplaceAll(s, "return 1;", "return;") + "}",
		head + ":int{if b{" + s + "}return 2;}",
	}
}

// wantStmts asks what the statements of a block become; those that map to "="
// stay as they are.
func wantStmts(t *testing.T, all map[string]string) {
	t.Helper()
	for source, want := range all {
		if want == "=" {
			want = source
		}
		wanted := inBodies(want)
		for i, s := range inBodies(source) {
			wantFolded(t, s, wanted[i])
			if want == source {
				wantAsChecked(t, s)
			}
		}
	}
}

func TestExpressionsOfStatements(t *testing.T) {
	wantStmts(t, map[string]string{
		"let a:int=1+1;let c:bool=!!b;":   "let a:int=2;let c:bool=b;",
		"i=1+1;gi=2*3;gb=!!gb;ge=null;":   "i=2;gi=6;gb=gb;ge=null;",
		"ai[1+1]=2+2;ab[i]=!true;":        "ai[2]=4;ab[i]=false;",
		"af[0]=0.5+0.5;ae[2-1]=ae[1*2];":  "af[0]=1.0;ae[1]=ae[2];",
		"if i<1+1{g(1+2);}":               "if i<2{g(3);}",
		"if i<1{g(1+2);}else{g(2+2);}":    "if i<1{g(3);}else{g(4);}",
		"while i<1+1{i=i+(1+1);}":         "while i<2{i=i+2;}",
		"while !!b{b=true&&b;}":           "while b{b=b;}",
		"g(1+1);h(1*1,0.5*0.5,!b,null);":  "g(2);h(1,0.25,!b,null);",
		"mark(nth(1+1),2+2);hi(hi(1+1));": "mark(nth(2),4);hi(hi(2));",
	})
	wantFolded(t, "fn f():int{return 1+1;}", "fn f():int{return 2;}")
	wantFolded(t, "fn f():bool{return !!(1<2);}fn g():fix{return 1.0+1.0;}", "fn f():bool{return true;}fn g():fix{return 2.0;}")
}

// wantStmtsRefused asks that statements come to something that is no tree.
func wantStmtsRefused(t *testing.T, all ...string) {
	t.Helper()
	for _, source := range all {
		for _, s := range inBodies(source) {
			checked(t, s)
			wantRunError(t, s, parsed(t, s))
		}
	}
}

func TestCallsThatAreStatements(t *testing.T) {
	wantStmts(t, map[string]string{
		"tofix(i);toint(x);":           "=",
		"tofix(-1);toint(-0.5);":       "=",
		"tofix(1-2);toint(0.5-1.0);":   "=",
		"tofix(1/0);":                  "=",
		"tofix(i+(1+1));":              "tofix(i+2);",
		"toint(tofix(i*(1+1)));":       "toint(tofix(i*2));",
		"hf(tofix(1));hi(toint(1.5));": "hf(1.0);hi(1);",
		"g(toint(tofix(1)));kill(e);":  "g(1);kill(e);",
	})
}

func TestCallsThatBecomeValues(t *testing.T) {
	// A value is no statement.
	wantStmtsRefused(t,
		"tofix(1);", "tofix(0);", "toint(1.5);", "toint(0.0);", "tofix(1+2);", "toint(0.5+0.5);", "tofix(-0);", "toint(-0.0);",
		"tofix(toint(2.5));", "toint(tofix(1));", "tofix("+maxInt+");", "toint("+minFix+");",
		"g(1);tofix(1);g(2);", "tofix(i);tofix(1);", "tofix(1);return 1;",
		"if true{tofix(1);}", "if false{}else{tofix(1);}", "if b{tofix(1);}", "if b{}else{tofix(1);}", "if b{}else if gb{tofix(1);}",
		"while b{toint(-0.0);}", "while true{toint(0.5);}", "if b{return 1;}tofix(1);", "while b{return 1;}tofix(1);",
		// What stays for a let stays as a whole.
		"if true{let a:int=1;tofix(a);tofix(1);}", "if true{let a:int=1;}else{tofix(1);}", "if false{tofix(1);}else{let a:int=1;}",
	)
	wantRunError(t, "the second function", parsed(t, "fn f(){f();}fn g(){tofix(1);}"))
}

func TestCallsThatBecomeValuesAndGo(t *testing.T) {
	wantStmts(t, map[string]string{
		"return 1;tofix(1);":                               "return 1;",
		"if b{return 1;}else{return 1;}toint(0.5);":        "if b{return 1;}else{return 1;}",
		"while b{return 1;tofix(1);}":                      "while b{return 1;}",
		"if true{return 1;}tofix(1);":                      "return 1;",
		"if false{tofix(1);}":                              "",
		"if true{g(1);}else{tofix(1);}":                    "g(1);",
		"if 1>2{tofix(1);let a:int=1;}else{g(1);}":         "g(1);",
		"if b{g(1);}else if false{tofix(1);}":              "if b{g(1);}",
		"while false{toint(1.0);}":                         "",
		"while false&&b{toint(1.0);}":                      "",
		"while false{if b{tofix(1);}}":                     "",
		"if true{let a:int=1;return 1;tofix(a);tofix(1);}": "if true{let a:int=1;return 1;}",
	})
}

func TestIfs(t *testing.T) {
	wantStmts(t, map[string]string{
		"if true{g(1);g(2);}g(3);":                         "g(1);g(2);g(3);",
		"g(0);if true{g(1);}else{g(2);}g(3);":              "g(0);g(1);g(3);",
		"if false{g(1);}else{g(2);g(3);}":                  "g(2);g(3);",
		"g(0);if false{g(1);}g(2);":                        "g(0);g(2);",
		"if true{}":                                        "",
		"if false{g(1);}":                                  "",
		"if true{}else{g(1);}":                             "",
		"if 1<2{g(1);}else{g(2);}":                         "g(1);",
		"if 1>2{g(1);}else{g(2);}":                         "g(2);",
		"if null==null{g(1);}":                             "g(1);",
		"if !true{g(1);}else if b{g(2);}else{g(3);}":       "if b{g(2);}else{g(3);}",
		"if true{g(1);}else if b{g(2);}":                   "g(1);",
		"if b{g(1);}else if true{g(2);}else{g(3);}":        "if b{g(1);}else{g(2);}",
		"if b{g(1);}else if false{g(2);}":                  "if b{g(1);}",
		"if b{g(1);}else if false{g(2);}else{g(3);g(4);}":  "if b{g(1);}else{g(3);g(4);}",
		"if b{g(1);}else if false{g(2);}else if gb{g(3);}": "if b{g(1);}else if gb{g(3);}",
		"if b{if true{g(1);}}else{if false{g(2);}}":        "if b{g(1);}",
		"if b{if false{g(1);}}else{g(2);}":                 "if b{}else{g(2);}",
		"if b{while false{}}":                              "if b{}",
		"if b{g(1);}":                                      "=",
		"if b{}else{g(1);}":                                "=",
		"if b&&false{g(1);}else{g(2);}":                    "=",
		"if 1/0==1{g(1);}":                                 "=",
		"if true{if true{if true{g(1);}g(2);}g(3);}":       "g(1);g(2);g(3);",
		"if true{if false{g(1);}else{if b{g(2);}}g(3);}":   "if b{g(2);}g(3);",
		"if true{while true{if true{g(1);}}}":              "while true{g(1);}",
		"while b{if false{g(1);}if true{g(2);}}":           "while b{g(2);}",
		"if true{i=1;ai[i]=2;tag(e);while b{}if b{}}":      "i=1;ai[i]=2;tag(e);while b{}if b{}",
	})
}

func TestIfsWithLets(t *testing.T) {
	wantStmts(t, map[string]string{
		"if true{let a:int=1;}":                              "=",
		"if false{}else{let a:int=1;}":                       "=",
		"if true{g(1);let a:int=1;g(a);}g(2);":               "=",
		"if true{let a:int=1;}else{g(1);}":                   "=",
		"if false{g(1);}else{g(2);let a:int=1;}":             "=",
		"if true{let a:int=1+1;if true{g(a);}}else{g(1+1);}": "if true{let a:int=2;g(a);}else{g(2);}",
		"if 1<2{let a:int=1;}":                               "if true{let a:int=1;}",
		"if 1>2{g(1+1);}else{let a:int=1;}":                  "if false{g(2);}else{let a:int=1;}",
		// Those of the other block, or deeper ones, do not count.
		"if true{g(1);}else{let a:int=1;}":                "g(1);",
		"if false{let a:int=1;}else{g(1);}":               "g(1);",
		"if false{let a:int=1;}":                          "",
		"if true{if b{let a:int=1;}}":                     "if b{let a:int=1;}",
		"if true{while b{let a:int=1;}g(1);}":             "while b{let a:int=1;}g(1);",
		"if true{if true{let a:int=1;}}":                  "if true{let a:int=1;}",
		"if true{if true{let a:int=1;}g(1);}let a:int=2;": "if true{let a:int=1;}g(1);let a:int=2;",
		"if true{if false{let a:int=1;}g(1);}":            "g(1);",
		// Nor one that was removed.
		"if true{return 1;let a:int=1;}":                        "return 1;",
		"if true{g(1);return 1;let a:int=1;g(a);}g(2);":         "g(1);return 1;",
		"if b{if true{let a:int=1;}}else if true{let c:int=1;}": "=",
	})
}

func TestWhiles(t *testing.T) {
	wantStmts(t, map[string]string{
		"while false{g(1);}":                       "",
		"g(1);while false{}g(2);":                  "g(1);g(2);",
		"while 1>2{g(1);}":                         "",
		"while false&&b{g(1);}":                    "",
		"while false{let a:int=1;return 1;}":       "",
		"while true{g(1);}g(2);":                   "=",
		"while true{}":                             "=",
		"while 1<2{g(1);}":                         "while true{g(1);}",
		"while true{return 1;}g(1);":               "=",
		"while b{g(1);}":                           "=",
		"while b&&false{g(1);}":                    "=",
		"while b{while false{}}":                   "while b{}",
		"while true{if true{return 1;}g(1);}g(2);": "while true{return 1;}g(2);",
		"while true{let a:int=1;}":                 "=",
	})
}

func TestWhatReturns(t *testing.T) {
	wantStmts(t, map[string]string{
		"return 1;":          "=",
		"return 1;g(1);":     "return 1;",
		"return 1;return 1;": "return 1;",
		"g(1);return 1;let a:int=1;a=2;while true{}":                     "g(1);return 1;",
		"if b{return 1;g(1);}g(2);":                                      "if b{return 1;}g(2);",
		"if b{return 1;}else{return 1;}g(1);":                            "if b{return 1;}else{return 1;}",
		"if b{return 1;}else{return 1;g(1);}g(2);":                       "if b{return 1;}else{return 1;}",
		"if b{return 1;g(1);}else{return 1;}g(2);return 1;":              "if b{return 1;}else{return 1;}",
		"if b{return 1;}else{g(1);}g(2);":                                "=",
		"if b{g(1);}else{return 1;}g(2);":                                "=",
		"if b{return 1;}g(1);":                                           "=",
		"if b{}else{return 1;}g(1);":                                     "=",
		"if b{g(0);return 1;}else if gb{return 1;}else{return 1;}g(1);":  "if b{g(0);return 1;}else if gb{return 1;}else{return 1;}",
		"if b{return 1;}else if gb{return 1;}g(1);":                      "=",
		"if b{if gb{return 1;}else{return 1;}g(1);}else{return 1;}g(2);": "if b{if gb{return 1;}else{return 1;}}else{return 1;}",
		"while b{return 1;}g(1);":                                        "=",
		"while b{return 1;g(1);}g(2);":                                   "while b{return 1;}g(2);",
		"while b{if gb{return 1;}else{return 1;}i=1;}g(1);":              "while b{if gb{return 1;}else{return 1;}}g(1);",
		// What was taken out of an if returns as well.
		"if true{g(1);return 1;}g(2);":                             "g(1);return 1;",
		"if true{return 1;}else{g(1);}g(2);":                       "return 1;",
		"if false{return 1;}g(1);":                                 "g(1);",
		"if false{}else{return 1;}g(1);":                           "return 1;",
		"if b{if true{return 1;}}else{return 1;}g(1);":             "if b{return 1;}else{return 1;}",
		"if b{return 1;}else{if false{}else{return 1;}g(1);}g(2);": "if b{return 1;}else{return 1;}",
		"if true{if b{return 1;}else{return 1;}}g(1);":             "if b{return 1;}else{return 1;}",
		"while b{if true{return 1;}g(1);}":                         "while b{return 1;}",
		// One with a let stays, and returns only if both of its blocks do.
		"if true{let a:int=1;return 1;}g(1);":                 "=",
		"if true{let a:int=1;return 1;}else{return 1;}g(1);":  "if true{let a:int=1;return 1;}else{return 1;}",
		"if true{let a:int=1;return 1;}else{g(1);}g(2);":      "=",
		"if false{return 1;}else{let a:int=1;return 1;}g(1);": "if false{return 1;}else{let a:int=1;return 1;}",
	})
}

func TestAllFunctions(t *testing.T) {
	s := "fn a(){f(1+1);}fn f(x:int){if true{x=1;}}fn b():int{return 1;return 2;}fn c():bool{if 1<2{return true;}else{return false;}}"
	wantFolded(t, s, "fn a(){f(2);}fn f(x:int){x=1;}fn b():int{return 1;}fn c():bool{return true;}")
	wantFolded(t, "var a:int=-5;var b:[2]fix;var c:fix=1.5;fn f(){a=1+1;}", "var a:int=-5;var b:[2]fix;var c:fix=1.5;fn f(){a=2;}")
}

func TestOffsetsOfStatements(t *testing.T) {
	const s = "var v:int;fn f(x:int){if true{x=1;if false{}else{v=2;}}while 1<2{f(1+1);}return;f(3);}"
	m := folded(t, s)
	for i, piece := range []string{"x=1;", "v=2;", "while", "return;"} {
		if at := strings.Index(s, piece); m.Funcs[0].Body[i].At != at {
			t.Errorf("Fold of %q: %+v, want it at %d", s, m.Funcs[0].Body[i], at)
		}
	}
	if len(m.Funcs[0].Body) != 4 || m.Funcs[0].At != strings.Index(s, "f(x") || m.Vars[0].At != strings.Index(s, "v:int") {
		t.Errorf("Fold of %q: %+v", s, m)
	}
}

func TestLetsThatAreLeft(t *testing.T) {
	// The names of what was removed are free; the places are counted anew.
	wantFolded(t, "fn f(){while false{let a:int=1;}if false{let b:int=1;}let a:fix=1.0;let b:ent=null;b=nth(toint(a));}",
		"fn f(){let a:fix=1.0;let b:ent=null;b=nth(toint(a));}")
	// One of a block that an if gave up stays what it is there.
	wantFolded(t, "fn f(x:int){if true{if x<1{let a:int=x;x=a;}if x<2{let a:fix=1.0;}}let a:bool=true;a=!a;}",
		"fn f(x:int){if x<1{let a:int=x;x=a;}if x<2{let a:fix=1.0;}let a:bool=true;a=!a;}")
}
