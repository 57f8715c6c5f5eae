package fold_test

import (
	"slices"
	"strings"
	"testing"

	"tiltyard/api"
	"tiltyard/check"
	"tiltyard/eval"
	"tiltyard/fold"
	"tiltyard/parse"
)

// The model applies the chapter's rules one by one, from a list of them, and
// asks package eval what constants come to.

func kindOf(e api.Expr) string {
	switch e.Kind {
	case api.ExprBool:
		return []string{"false", "true"}[e.Num]
	case api.ExprInt, api.ExprFix, api.ExprNull:
		return "number"
	}
	return ""
}

// logicRule is what one of && and || becomes, by how the chapter writes it: E
// stands for any expression.
type logicRule struct {
	op                   int
	left, right, becomes string
}

func logicRules() []logicRule {
	return []logicRule{
		{api.OpAnd, "true", "E", "right"},
		{api.OpAnd, "false", "E", "left"},
		{api.OpAnd, "E", "true", "left"},
		{api.OpOr, "false", "E", "right"},
		{api.OpOr, "true", "E", "left"},
		{api.OpOr, "E", "false", "left"},
	}
}

func (r logicRule) fits(e api.Expr) bool {
	return e.Op == r.op && (r.left == "E" || r.left == kindOf(e.Args[0])) && (r.right == "E" || r.right == kindOf(e.Args[1]))
}

func modelExprs(t *testing.T, list []api.Expr) []api.Expr {
	l := []api.Expr{}
	for _, e := range list {
		l = append(l, modelExpr(t, e))
	}
	return l
}

func modelExpr(t *testing.T, e api.Expr) api.Expr {
	e.Args = modelExprs(t, e.Args)
	for _, r := range logicRules() {
		if e.Kind == api.ExprBoth && r.fits(e) {
			return map[string]api.Expr{"left": e.Args[0], "right": e.Args[1]}[r.becomes]
		}
	}
	if e.Kind == api.ExprUnary && e.Op == api.OpNot && e.Args[0].Kind == api.ExprUnary && e.Args[0].Op == api.OpNot {
		return e.Args[0].Args[0]
	}
	if hasValue(e) {
		if value, trap := modelValue(t, e); trap == 0 && value >= 0 {
			kinds := []int{0, api.ExprInt, api.ExprFix, api.ExprBool}
			return api.Expr{Kind: kinds[e.Type], Num: value, At: e.At}
		}
	}
	return e
}

// hasValue tells whether an expression has nothing but constants, and is one
// that may become its value.
func hasValue(e api.Expr) bool {
	switch {
	case slices.ContainsFunc(e.Args, func(a api.Expr) bool { return kindOf(a) == "" }):
		return false
	case e.Kind == api.ExprUnary:
		return true
	case e.Kind == api.ExprBoth:
		return e.Op != api.OpAnd && e.Op != api.OpOr
	}
	return e.Kind == api.ExprCall && (e.Name == "tofix" || e.Name == "toint")
}

func modelValue(t *testing.T, e api.Expr) (int, int) {
	f := api.Func{Name: "f", Type: e.Type, Body: []api.Stmt{{Kind: api.StmtReturn, Exprs: []api.Expr{e}}}}
	end, errno := eval.Run(api.Mod{Funcs: []api.Func{f}}, nil, 0, nil, 100, nil)
	if errno != api.OK {
		t.Fatalf("Run of %+v: %v", e, errno)
	}
	return end.Value, end.Trap
}

func modelBlock(t *testing.T, list []api.Stmt) []api.Stmt {
	l := []api.Stmt{}
	for _, s := range list {
		s.Exprs = modelExprs(t, s.Exprs)
		s.Body, s.Else = modelBlock(t, s.Body), modelBlock(t, s.Else)
		l = append(l, s)
	}
	for {
		next, changed := modelStep(l)
		if !changed {
			return l
		}
		l = next
	}
}

// modelStep applies a rule to the first statement of a block for which there is one.
func modelStep(list []api.Stmt) ([]api.Stmt, bool) {
	for i, s := range list {
		before, behind := list[:i], list[i+1:]
		if modelReturns(list[:i+1]) && len(behind) > 0 {
			return list[:i+1], true
		}
		if s.Kind != api.StmtIf && s.Kind != api.StmtWhile {
			continue
		}
		way, known := map[string][]api.Stmt{"true": s.Body, "false": s.Else}[kindOf(s.Exprs[0])]
		if !known || s.Kind == api.StmtWhile && kindOf(s.Exprs[0]) == "true" {
			continue
		}
		if slices.IndexFunc(way, func(s api.Stmt) bool { return s.Kind == api.StmtLet }) < 0 {
			return slices.Concat(before, way, behind), true
		}
	}
	return nil, false
}

// modelReturns tells whether a sequence always returns, as chapter 11 says it.
func modelReturns(list []api.Stmt) bool {
	if len(list) == 0 {
		return false
	}
	last := list[len(list)-1]
	return last.Kind == api.StmtReturn || last.Kind == api.StmtIf && modelReturns(last.Body) && modelReturns(last.Else)
}

// modelFold is what Fold has to answer for a tree that passes the check.
func modelFold(t *testing.T, m api.Mod) (api.Mod, api.Errno) {
	t.Helper()
	c, f := check.Check(m)
	if f.Code != api.OK {
		t.Fatalf("Check of %s: %v", short(tell(m)), f)
	}
	for i := range c.Funcs {
		c.Funcs[i].Body = modelBlock(t, c.Funcs[i].Body)
	}
	c, f = check.Check(c)
	if f.Code != api.OK {
		return api.Mod{}, api.ErrRun
	}
	return c, api.OK
}

func wantAsModel(t *testing.T, told string, m api.Mod) api.Mod {
	t.Helper()
	want, e := modelFold(t, m)
	got, gotError := fold.Fold(m)
	if tell(got) != tell(want) || gotError != e {
		t.Fatalf("Fold of %s: %v and %s, want %v and %s", told, gotError, tell(got), e, tell(want))
	}
	return got
}

// P13.1 and P13.4

func TestMadeModsAsTheModel(t *testing.T) {
	changed, refused := 0, 0
	for seed := range int64(1500) {
		g := made(t, seed)
		got := wantAsModel(t, g.source, g.mod)
		if len(got.Funcs) == 0 {
			refused++
			continue
		}
		text := printed(t, got)
		if text != printed(t, g.mod) {
			changed++
		}
		if again, e := fold.Fold(got); e != api.OK || tell(again) != tell(got) {
			t.Fatalf("Fold of the folded %s: %v and %s, want %s", g.source, e, tell(again), tell(got))
		}
		// The text has the same tree.
		m, f := parse.Parse(text)
		if f.Code != api.OK || tell(still(foldedTree(t, m))) != tell(still(got)) {
			t.Fatalf("Fold of %s: %v and %s", text, f, tell(got))
		}
	}
	if changed < 1300 || refused < 30 || refused > 150 {
		t.Errorf("%d mods were changed, %d refused", changed, refused)
	}
}

func TestAnyOffsetsAsTheModel(t *testing.T) {
	for seed := range int64(100) {
		g, n := made(t, seed), 0
		next := func() int { n++; return n * 7919 % 1000003 * (1 - n%2*2) }
		walk(g.mod, func(s *api.Stmt) { s.At = next() }, func(e *api.Expr) { e.At = next() })
		wantAsModel(t, g.source, g.mod)
	}
}

// TestAllSmallExpressions tries each operator on each pair of these operands.
func TestAllSmallExpressions(t *testing.T) {
	operands := map[string][]string{
		"int":  {"0", "1", "2", "7", maxInt, "4611686018427387904", "i", "-1", "1/0"},
		"fix":  {"0.0", "1.0", "0.5", "2147483647.75", maxFix, minFix, "x", "-1.0", "1.0/0.0"},
		"bool": {"true", "false", "b", "!b", "1<i", "1/0==1", "!true"},
		"ent":  {"null", "e", "nth(1)"},
	}
	operators := map[string][]string{
		"int": {"+", "-", "*", "/", "%", "==", "!=", "<", "<=", ">", ">="}, "fix": {"+", "-", "*", "/", "==", "!=", "<", "<=", ">", ">="},
		"bool": {"&&", "||", "==", "!="}, "ent": {"==", "!="},
	}
	for kind, all := range operands {
		for _, op := range operators[kind] {
			result := kind
			if slices.Contains([]string{"==", "!=", "<", "<=", ">", ">="}, op) {
				result = "bool"
			}
			for _, a := range all {
				for _, b := range all {
					s := inWorld(result, "("+a+")"+op+"("+b+")")
					wantAsModel(t, s, parsed(t, s))
				}
			}
		}
	}
	for kind, sign := range map[string]string{"int": "-", "fix": "-", "bool": "!"} {
		for _, a := range operands[kind] {
			for _, signs := range []string{sign, sign + sign, sign + sign + sign} {
				s := inWorld(kind, signs+"("+a+")")
				wantAsModel(t, s, parsed(t, s))
			}
		}
	}
}

// TestAllSmallBlocks tries all pairs of these statements, alone and within others.
func TestAllSmallBlocks(t *testing.T) {
	pieces := []string{"g(1);", "return;", "if b{return;}else{return;}", "if b{g(1);}", "if true{g(1);}", "if true{g(1);return;}else{g(2);}",
		"if false{return;}else{g(2);}", "while false{g(1);}", "while true{g(1);}", "if true{let z:int=1;}", "if false{let z:int=1;}", "tofix(1);", "tofix(-1);"}
	around := []string{"#", "if true{#}g(3);", "if false{g(3);}else{#}g(4);", "if b{#}else{return;}g(3);", "if true{let y:int=1;#}else{return;}g(4);", "while b{#}"}
	const head = "fn g(x:int){}fn f(b:bool){"
	for _, a := range append(pieces, "let w:int=1;") {
		for _, b := range append(pieces, "") {
			for _, block := range around {
				s := head + strings.Replace(block, "#", a+b, 1) + "}"
				wantAsModel(t, s, parsed(t, s))
			}
		}
	}
}
