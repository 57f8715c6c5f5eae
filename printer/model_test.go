package printer_test

import (
	"fmt"
	"math/rand"
	"slices"
	"strconv"
	"strings"
	"testing"

	"tiltyard/api"
	"tiltyard/fix"
	"tiltyard/parse"
	"tiltyard/printer"
	"tiltyard/token"
)

// The model of a valid tree is the chapter's first sentence of it: some source
// has this tree. Such a source is spelled with parentheses around every operator
// and a blank around every token, so without what printer does of its own.

type speller struct{ strings.Builder }

func (b *speller) words(l ...string) {
	for _, x := range l {
		b.WriteString(x + " ")
	}
}

// word is the one with that number, or one that is no token.
func word(n int, all string) string {
	if l := strings.Fields(all); n >= 1 && n <= len(l) {
		return l[n-1]
	}
	return "?"
}

func typeWord(n int) string { return word(n, "int fix bool ent") }

func signWord(n int) string { return word(n, "+ - * / % == != < <= > >= && || - !") }

func valueWord(kind, n int) string {
	switch kind {
	case api.TyInt:
		return strconv.Itoa(n)
	case api.TyFix:
		return fix.Print(n)
	case api.TyBool:
		return word(n+1, "false true")
	}
	return "null"
}

func spelled(m api.Mod) string {
	b := &speller{}
	for _, v := range m.Vars {
		b.words("var", v.Name, ":")
		if v.Size != 0 {
			b.words("[", strconv.Itoa(v.Size), "]")
		}
		b.words(typeWord(v.Type))
		if v.Size == 0 || v.Value != 0 {
			b.words("=", valueWord(v.Type, v.Value))
		}
		b.words(";")
	}
	for _, f := range m.Funcs {
		b.words("fn", f.Name, "(")
		for i, p := range f.Params {
			b.words(strings.Repeat(",", min(i, 1)), p.Name, ":", typeWord(p.Type))
		}
		b.words(")")
		if f.Type != 0 {
			b.words(":", typeWord(f.Type))
		}
		b.block(f.Body)
	}
	return b.String()
}

func (b *speller) block(l []api.Stmt) {
	b.words("{")
	for _, s := range l {
		b.stmt(s)
	}
	b.words("}")
}

// exprs spells a list with something ahead of each.
func (b *speller) exprs(before string, l []api.Expr) {
	for _, e := range l {
		b.words(before)
		b.expr(e)
	}
}

func (b *speller) stmt(s api.Stmt) {
	switch s.Kind {
	case api.StmtLet:
		b.words("let", s.Name, ":", typeWord(s.Type))
		b.exprs("=", s.Exprs)
	case api.StmtSet:
		b.words(s.Name)
		b.exprs("=", s.Exprs)
	case api.StmtPut:
		b.words(s.Name, "[")
		b.exprs("", s.Exprs[:min(1, len(s.Exprs))])
		b.words("]")
		b.exprs("=", s.Exprs[min(1, len(s.Exprs)):])
	case api.StmtIf, api.StmtWhile:
		b.words(word(s.Kind, "let set put if while"))
		b.exprs("", s.Exprs)
		b.block(s.Body)
		if len(s.Else) > 0 {
			b.words("else")
			b.block(s.Else)
		}
		return
	case api.StmtReturn:
		b.words("return")
		b.exprs("", s.Exprs)
	case api.StmtCall:
		b.exprs("", s.Exprs)
	default:
		b.words("?")
	}
	b.words(";")
}

func (b *speller) expr(e api.Expr) {
	switch e.Kind {
	case api.ExprInt, api.ExprFix, api.ExprBool, api.ExprNull:
		b.words(valueWord(e.Kind, e.Num))
	case api.ExprName:
		b.words(e.Name)
	case api.ExprIndex:
		b.words(e.Name, "[")
		b.exprs("", e.Args)
		b.words("]")
	case api.ExprCall:
		b.words(e.Name, "(")
		for i, x := range e.Args {
			b.words(strings.Repeat(",", min(i, 1)))
			b.expr(x)
		}
		b.words(")")
	case api.ExprUnary:
		b.words(signWord(e.Op))
		b.exprs("", e.Args)
	case api.ExprBoth:
		b.words("(")
		b.exprs("", e.Args[:min(1, len(e.Args))])
		b.words(signWord(e.Op))
		b.exprs("", e.Args[min(1, len(e.Args)):])
		b.words(")")
	default:
		b.words("?")
	}
}

// bare is a tree without what is ignored.
func bare(m api.Mod) api.Mod {
	m.Vars, m.Funcs = slices.Clone(m.Vars), slices.Clone(m.Funcs)
	for i := range m.Vars {
		m.Vars[i].At = 0
	}
	for i := range m.Funcs {
		f := &m.Funcs[i]
		f.At, f.Locals, f.Body = 0, nil, bareStmts(f.Body)
	}
	return m
}

func bareStmts(l []api.Stmt) []api.Stmt {
	l = slices.Clone(l)
	for i := range l {
		s := &l[i]
		s.At, s.Place, s.Exprs, s.Body, s.Else = 0, 0, bareExprs(s.Exprs), bareStmts(s.Body), bareStmts(s.Else)
	}
	return l
}

func bareExprs(l []api.Expr) []api.Expr {
	l = slices.Clone(l)
	for i := range l {
		e := &l[i]
		e.At, e.Type, e.Place, e.Args = 0, 0, 0, bareExprs(e.Args)
	}
	return l
}

// tell is a tree as text: by it a nil list and an empty one are the same.
func tell(m api.Mod) string { return fmt.Sprintf("%+v", m) }

func same(m, n api.Mod) bool { return tell(bare(m)) == tell(bare(n)) }

// wantAsModel holds Right against the model, for a tree that is far from the
// limits of lengths and of levels.
func wantAsModel(t *testing.T, m api.Mod) bool {
	t.Helper()
	n, f := parse.Parse(spelled(m))
	right := f.Code == api.OK && same(m, n)
	e := printer.Right(m)
	if e == api.ErrTree {
		e = printer.Right(lengthened(m))
	}
	if (e == api.OK) != right || !right && e != api.ErrTree {
		t.Errorf("%s: %v, but the source %q has the tree %s, %v", tell(m), e, spelled(m), tell(n), f)
	}
	return right
}

// someNames are names and what is none.
func someNames() []string {
	return []string{
		"", "a", "_", "x9", "spawn", "tofix", "a_name_of_24_letters_abc", "a_name_of_25_letters_abcd",
		"if", "int", "null", "true", "9a", "A", "aB", "a b", "a;b=1", "a#", "a ", " a", "a\n", "é", "\x00", "a-",
	}
}

func someNumbers() []int {
	return []int{api.MinInt, -api.MaxInt, -api.One, -2, -1, 0, 1, 2, 3, api.One, api.MaxInt - 1, api.MaxInt}
}

func TestVariablesAsModel(t *testing.T) {
	count := 0
	for _, s := range someNames() {
		for kind := -1; kind <= 6; kind++ {
			for _, size := range []int{api.MinInt, -1, 0, 1, 2, 255, 256, 257, api.MaxInt} {
				for _, n := range someNumbers() {
					if wantAsModel(t, vars(api.Var{Name: s, Type: kind, Size: size, Value: n, At: n})) {
						count++
					}
				}
			}
		}
	}
	// Of each name: integers and fixed-point numbers but MinInt, two truths and null; four types of four sizes each.
	if want := 6 * (2*11 + 2 + 1 + 4*4); count != want {
		t.Errorf("%d are right, not %d", count, want)
	}
}

func TestFunctionsAsModel(t *testing.T) {
	for _, s := range someNames() {
		for kind := -1; kind <= 6; kind++ {
			wantAsModel(t, funcs(api.Func{Name: s, Type: kind}))
			wantAsModel(t, funcs(api.Func{Name: s, Params: []api.Param{{Name: s, Type: kind}}, At: -7, Locals: []int{9}}))
			wantAsModel(t, funcs(api.Func{Name: "f", Params: []api.Param{{Name: "x", Type: 1}, {Name: s, Type: kind}}, Type: 3}))
		}
	}
}

// someExprs are lists of up to three, of every kind that matters to what has them.
func someExprs() [][]api.Expr {
	a, f := name("a"), call("f")
	return [][]api.Expr{nil, {}, {a}, {f}, {whole(1)}, {a, f}, {f, a}, {a, a, a}, {whole(-1)}, {a, whole(-1)}, {{}}, {name("if")}}
}

func TestStatementsAsModel(t *testing.T) {
	blocks := [][]api.Stmt{nil, {}, stmts(result()), stmts(choice(a(), nil, nil)), stmts(result(), loop(a())), stmts(api.Stmt{}), stmts(set("", a()))}
	count := 0
	for kind := -1; kind <= 9; kind++ {
		for _, s := range []string{"", "a", "if", "A"} {
			for scalar := -1; scalar <= 5; scalar++ {
				for _, l := range someExprs() {
					for _, then := range blocks {
						for _, otherwise := range blocks {
							m := body(api.Stmt{Kind: kind, Name: s, Type: scalar, Exprs: l, Body: then, Else: otherwise, At: kind, Place: scalar})
							if wantAsModel(t, m) {
								count++
							}
						}
					}
				}
			}
		}
	}
	// Two ways to be empty each; three expressions for one, two for two, five lists for a block.
	if want := 4*3*4 + 3*4 + 2*4 + 3*5*5 + 3*5*2 + 5*4 + 1*4; count != want {
		t.Errorf("%d are right, not %d", count, want)
	}
}

func TestExpressionsAsModel(t *testing.T) {
	count := 0
	for kind := -1; kind <= 11; kind++ {
		for op := -1; op <= 17; op++ {
			for _, n := range []int{api.MinInt, -1, 0, 1, 2, api.MaxInt} {
				for _, s := range []string{"", "a", "if"} {
					for _, l := range someExprs() {
						e := api.Expr{Kind: kind, Op: op, Num: n, Name: s, Args: l, At: n, Type: op, Place: kind}
						if wantAsModel(t, value(e)) {
							count++
						}
					}
				}
			}
		}
	}
	// Four numbers of two kinds, two truths, null, a name, each with two ways to
	// have no arguments; three arguments, seven lists of them, two operators with
	// one, thirteen with two lists of two.
	if want := 2*(2*4+2+1+1) + 3 + 8 + 2*3 + 13*2; count != want {
		t.Errorf("%d are right, not %d", count, want)
	}
}

func TestNamesAndNumbersAsModel(t *testing.T) {
	for _, s := range someNames() {
		for _, e := range []api.Expr{name(s), index(s, a()), call(s), call(s, a()), index("a", name(s)), call("a", index(s, call(s)))} {
			wantAsModel(t, value(e))
			wantAsModel(t, body(calling(e)))
		}
		for _, x := range []api.Stmt{set(s, a()), let(s, api.TyInt, a()), put(s, a(), a())} {
			wantAsModel(t, body(x))
			wantAsModel(t, body(loop(a(), x)))
			wantAsModel(t, body(choice(a(), stmts(x), nil)))
			wantAsModel(t, body(choice(a(), nil, stmts(x))))
		}
	}
	for _, n := range someNumbers() {
		for kind := range 10 {
			e := api.Expr{Kind: kind, Num: n}
			wantAsModel(t, value(e))
			wantAsModel(t, value(unary(api.OpNeg, both(api.OpAdd, a(), e))))
		}
	}
}

// maker makes valid trees.
type maker struct {
	*rand.Rand
	budget int  // how many parts there may be yet
	deep   int  // of a hundred expressions, those that have parts
	junk   bool // whether what is ignored has some value
}

func (r *maker) chance(percent int) bool { return r.Intn(100) < percent }

// spend tells whether there may be one more part that has parts.
func (r *maker) spend() bool {
	r.budget--
	return r.budget > 0
}

func (r *maker) ignored() int {
	if !r.junk {
		return 0
	}
	return someNumbers()[r.Intn(12)]
}

func (r *maker) name() string { return someNames()[1+r.Intn(6)] }

func (r *maker) number() int { return someNumbers()[5+r.Intn(7)] }

func (r *maker) exprs(n int) []api.Expr {
	var l []api.Expr
	for range n {
		l = append(l, r.expr())
	}
	return l
}

func (r *maker) expr() api.Expr {
	e := api.Expr{At: r.ignored(), Type: r.ignored(), Place: r.ignored(), Kind: 1 + r.Intn(5)}
	if r.chance(r.deep) && r.spend() {
		e.Kind = 6 + r.Intn(4)
	}
	switch e.Kind {
	case api.ExprInt, api.ExprFix:
		e.Num = r.number()
	case api.ExprBool:
		e.Num = r.Intn(2)
	case api.ExprName:
		e.Name = r.name()
	case api.ExprIndex:
		e.Name, e.Args = r.name(), r.exprs(1)
	case api.ExprCall:
		e.Name, e.Args = r.name(), r.exprs(r.Intn(4))
	case api.ExprUnary:
		e.Op, e.Args = api.OpNeg+r.Intn(2), r.exprs(1)
	case api.ExprBoth:
		e.Op, e.Args = api.OpAdd+r.Intn(13), r.exprs(2)
	}
	return e
}

func (r *maker) stmts() []api.Stmt {
	var l []api.Stmt
	for r.chance(60) && r.spend() {
		l = append(l, r.stmt())
	}
	return l
}

func (r *maker) stmt() api.Stmt {
	s := api.Stmt{Kind: 1 + r.Intn(7), At: r.ignored(), Place: r.ignored()}
	switch s.Kind {
	case api.StmtLet:
		s.Name, s.Type, s.Exprs = r.name(), 1+r.Intn(4), r.exprs(1)
	case api.StmtSet:
		s.Name, s.Exprs = r.name(), r.exprs(1)
	case api.StmtPut:
		s.Name, s.Exprs = r.name(), r.exprs(2)
	case api.StmtIf:
		s.Exprs, s.Body, s.Else = r.exprs(1), r.stmts(), r.stmts()
	case api.StmtWhile:
		s.Exprs, s.Body = r.exprs(1), r.stmts()
	case api.StmtReturn:
		s.Exprs = r.exprs(r.Intn(2))
	case api.StmtCall:
		s.Exprs = []api.Expr{{Kind: api.ExprCall, Name: r.name(), Args: r.exprs(r.Intn(4)), At: r.ignored(), Type: r.ignored(), Place: r.ignored()}}
	}
	return s
}

func (r *maker) mod() api.Mod {
	m := api.Mod{}
	for r.chance(60) && len(m.Vars) < 64 {
		v := api.Var{Name: r.name(), Type: 1 + r.Intn(4), At: r.ignored()}
		switch {
		case r.chance(30):
			v.Size = 1 + r.Intn(256)
		case v.Type <= api.TyFix:
			v.Value = someNumbers()[1+r.Intn(11)]
		case v.Type == api.TyBool:
			v.Value = r.Intn(2)
		}
		m.Vars = append(m.Vars, v)
	}
	for r.chance(70) && len(m.Funcs) < 64 {
		f := api.Func{Name: r.name(), Type: r.Intn(5), Body: r.stmts(), At: r.ignored()}
		for range r.Intn(9) {
			f.Params = append(f.Params, api.Param{Name: r.name(), Type: 1 + r.Intn(4)})
		}
		if r.junk {
			f.Locals = []int{r.ignored()}
		}
		m.Funcs = append(m.Funcs, f)
	}
	return m
}

func made(seed int64) api.Mod {
	r := &maker{Rand: rand.New(rand.NewSource(seed)), deep: 60, junk: seed%2 == 0}
	r.budget = 1 + r.Intn(300)
	switch seed % 10 {
	case 8:
		r.deep = 95
	case 9:
		r.deep, r.budget = 85, 5000
	}
	return r.mod()
}

// levelsOf is how many levels there are at most around a token of a tree's text.
func levelsOf(m api.Mod) int {
	most := 0
	for _, f := range m.Funcs {
		most = max(most, levelsOfBlock(f.Body))
	}
	return most
}

func levelsOfBlock(l []api.Stmt) int {
	most := 0
	for _, s := range l {
		most = max(most, levelsOfStmt(s))
	}
	return 1 + most
}

func levelsOfStmt(s api.Stmt) int {
	most := 0
	for i, e := range s.Exprs {
		n := levelsOfExpr(e)
		if s.Kind == api.StmtPut && i == 0 {
			n++
		}
		most = max(most, n)
	}
	if s.Kind == api.StmtIf || s.Kind == api.StmtWhile {
		most = max(most, levelsOfBlock(s.Body))
	}
	// An else costs one level, whether it is written as a block or as an if.
	if len(s.Else) > 0 {
		most = max(most, levelsOfBlock(s.Else))
	}
	return most
}

func levelsOfExpr(e api.Expr) int {
	most := 0
	for i, x := range e.Args {
		n := levelsOfExpr(x)
		if e.Kind == api.ExprUnary && x.Kind == api.ExprBoth || e.Kind == api.ExprBoth && x.Kind == api.ExprBoth && binds(x, e, i) {
			n++
		}
		most = max(most, n)
	}
	switch e.Kind {
	case api.ExprIndex, api.ExprCall, api.ExprUnary:
		most++
	}
	return most
}

func rankOf(op int) int {
	l := operators()
	return l[slices.IndexFunc(l, func(o rankedOperator) bool { return o.op == op })].rank
}

// binds tells whether an operator needs parentheses as that operand of another one.
func binds(x, e api.Expr, i int) bool {
	r := rankOf(e.Op)
	return rankOf(x.Op) < r || rankOf(x.Op) == r && (i == 1 || r == rankCompare)
}

func among(all string, x api.Token) bool { return strings.Contains(" "+all+" ", " "+x.Text+" ") }

// layout puts the tokens of a text into lines, as the chapter says, from the
// tokens alone.
func layout(s string) string {
	l, _ := token.Tokens(s)
	var b strings.Builder
	tabs, start, binary, previous := 0, true, false, api.Token{}
	for i, x := range l[:len(l)-1] {
		if x.Text == "}" {
			tabs--
		}
		behindBinary := binary
		binary = x.Text == "=" || among("== != < <= > >= && || + - * / %", x) && endsOperand(previous)
		switch {
		case start:
			b.WriteString(strings.Repeat("\t", tabs))
		case binary, behindBinary, among("{ else", x), among("var fn let if while else : ,", previous),
			previous.Text == "return" && x.Text != ";", previous.Text == "]" && among("int fix bool ent", x):
			b.WriteString(" ")
		}
		b.WriteString(x.Text)
		start = among("; {", x) || x.Text == "}" && l[i+1].Text != "else"
		if start {
			b.WriteString("\n")
		}
		if x.Text == "{" {
			tabs++
		}
		previous = x
	}
	return b.String()
}

func endsOperand(x api.Token) bool {
	return x.Kind == api.TokName || x.Kind == api.TokInt || x.Kind == api.TokFix || among(") ] true false null", x)
}

// wantNeeded asks that each pair of parentheses around an expression is needed.
func wantNeeded(t *testing.T, s string, m api.Mod) {
	t.Helper()
	var open []int
	for i := range len(s) {
		switch s[i] {
		case '(':
			open = append(open, i)
		case ')':
			from := open[len(open)-1]
			open = open[:len(open)-1]
			if strings.IndexByte(" ([-!", s[from-1]) < 0 {
				continue // of a call, or of parameters
			}
			without := s[:from] + " " + s[from+1:i] + " " + s[i+1:]
			if n, f := parse.Parse(without); f.Code == api.OK && same(n, m) {
				t.Errorf("the parentheses at %d are not needed: %q", from, short(s[max(from-100, 0):]))
				return
			}
		}
	}
}

// P10.1 and P10.3
func TestMadeTrees(t *testing.T) {
	count := map[api.Errno]int{}
	for seed := range int64(2500) {
		m := made(seed)
		s, e := printer.Print(m)
		count[e]++
		if g := printer.Right(m); g != e {
			t.Errorf("%d: Right: %v, Print: %v", seed, g, e)
		}
		if e == api.ErrLong {
			continue
		}
		if want := levelsOf(m) <= api.MaxNest; want != (e == api.OK) || !want && (e != api.ErrTree || s != "") {
			t.Errorf("%d: %v, %d levels", seed, e, levelsOf(m))
		}
		if e != api.OK {
			continue
		}
		n, f := parse.Parse(s)
		if f != (api.Fault{}) || !same(m, n) {
			t.Errorf("%d: %q has another tree: %v", seed, short(s), f)
		}
		if again, e := printer.Print(n); again != s || e != api.OK {
			t.Errorf("%d: %q, printed again: %q, %v", seed, short(s), short(again), e)
		}
		if want := layout(s); s != want {
			t.Errorf("%d: %q, want %q", seed, s, want)
		}
		if len(s) < 1000 {
			wantNeeded(t, s, m)
		}
	}
	if count[api.OK] < 1500 || count[api.ErrTree] < 50 || count[api.ErrLong] < 10 {
		t.Error("too few of a kind:", count)
	}
}

// P10.3, for trees that Parse answered of sources written otherwise.
func TestSpelledTrees(t *testing.T) {
	count := 0
	for seed := range int64(2000) {
		m := made(seed)
		source := spelled(m)
		n, f := parse.Parse(source)
		if f.Code != api.OK {
			continue
		}
		count++
		s, e := printer.Print(n)
		if want, _ := printer.Print(m); e != api.OK || s != want {
			t.Errorf("%d: %q, %v, want %q", seed, short(s), e, short(want))
		}
	}
	if count < 1000 {
		t.Error("too few:", count)
	}
}

// A part of a valid tree is lost, or doubled, or has another value.
func TestBrokenTrees(t *testing.T) {
	count := map[bool]int{}
	for seed := range int64(6000) {
		r := &maker{Rand: rand.New(rand.NewSource(seed)), budget: 25, deep: 60}
		m := bare(r.mod())
		if levelsOf(m) > 12 || len(m.Funcs) == 0 {
			continue
		}
		r.breakStmts(&m.Funcs[r.Intn(len(m.Funcs))].Body)
		count[wantAsModel(t, m)]++
	}
	if count[true] < 200 || count[false] < 2000 {
		t.Error("too few of a kind:", count)
	}
}

func (r *maker) breakStmts(l *[]api.Stmt) {
	if len(*l) == 0 {
		*l = append(*l, api.Stmt{Kind: r.Intn(9), Name: r.name()})
		return
	}
	s := &(*l)[r.Intn(len(*l))]
	switch r.Intn(8) {
	case 0:
		s.Kind = r.Intn(9)
	case 1:
		s.Name = someNames()[r.Intn(24)]
	case 2:
		s.Type = r.Intn(6)
	case 3:
		r.breakStmts(&s.Body)
	case 4:
		r.breakStmts(&s.Else)
	default:
		r.breakExprs(&s.Exprs)
	}
}

func (r *maker) breakExprs(l *[]api.Expr) {
	if len(*l) == 0 || r.chance(10) {
		*l = append(*l, name("a"))
		return
	}
	if r.chance(10) {
		*l = (*l)[1:]
		return
	}
	e := &(*l)[r.Intn(len(*l))]
	switch r.Intn(6) {
	case 0:
		e.Kind = r.Intn(11)
	case 1:
		e.Op = r.Intn(17)
	case 2:
		e.Num = someNumbers()[r.Intn(12)]
	case 3:
		e.Name = someNames()[r.Intn(24)]
	default:
		r.breakExprs(&e.Args)
	}
}

// roomy is a list with the same parts, each of them made roomy by a function,
// and with others in its spare capacity.
func roomy[T any](l []T, spare T, part func(*T)) []T {
	more := append(slices.Clone(l), spare, spare)
	for i := range more {
		if part != nil {
			part(&more[i])
		}
	}
	return more[:len(l)]
}

func roomyExprs(l []api.Expr) []api.Expr {
	return roomy(l, name("spare"), func(e *api.Expr) {
		if len(e.Args) > 0 {
			e.Args = roomyExprs(e.Args)
		}
	})
}

func roomyStmts(l []api.Stmt) []api.Stmt {
	return roomy(l, set("spare", a()), func(s *api.Stmt) {
		s.Exprs = roomyExprs(s.Exprs)
		if len(s.Body)+len(s.Else) > 0 {
			s.Body, s.Else = roomyStmts(s.Body), roomyStmts(s.Else)
		}
	})
}

func roomyMod(m api.Mod) api.Mod {
	m.Vars = roomy(m.Vars, api.Var{Name: "spare"}, nil)
	m.Funcs = roomy(m.Funcs, api.Func{Name: "spare"}, func(f *api.Func) {
		f.Params = roomy(f.Params, api.Param{Name: "spare"}, nil)
		f.Locals = roomy(f.Locals, 7, nil)
		f.Body = roomyStmts(f.Body)
	})
	return m
}

// tellAllExprs tells of what stands in the spare capacity, too.
func tellAllExprs(l []api.Expr) string {
	told := fmt.Sprintf("%d of %v", len(l), l[:cap(l)])
	for _, e := range l[:cap(l)] {
		told += tellAllExprs(e.Args)
	}
	return told
}

func tellAllStmts(l []api.Stmt) string {
	told := fmt.Sprintf("%d of %v", len(l), l[:cap(l)])
	for _, s := range l[:cap(l)] {
		told += tellAllExprs(s.Exprs) + tellAllStmts(s.Body) + tellAllStmts(s.Else)
	}
	return told
}

func tellAll(m api.Mod) string {
	told := fmt.Sprint(len(m.Vars), m.Vars[:cap(m.Vars)], len(m.Funcs), m.Funcs[:cap(m.Funcs)])
	for _, f := range m.Funcs[:cap(m.Funcs)] {
		told += fmt.Sprint(len(f.Params), f.Params[:cap(f.Params)], len(f.Locals), f.Locals[:cap(f.Locals)]) + tellAllStmts(f.Body)
	}
	return told
}

// P10.2
func TestArgumentsAreLeftAlone(t *testing.T) {
	for seed := range int64(100) {
		if seed%10 == 9 {
			continue // these are long
		}
		m := made(seed)
		want, e := printer.Print(m)
		m = roomyMod(m)
		before := tellAll(m)
		if got, f := printer.Print(m); got != want || f != e {
			t.Errorf("%d: %q, %v, want %q, %v", seed, short(got), f, short(want), e)
		}
		printer.Right(m)
		if tellAll(m) != before {
			t.Errorf("%d: the tree is another one", seed)
		}
	}
}

// A tree that changes is another one to the next call, and nothing to the last.
func TestArgumentsAreNotKept(t *testing.T) {
	m := body(set("x", both(api.OpAdd, a(), call("f", whole(1)))), loop(a(), result()))
	const want = "fn f() {\n\tx = a + f(1);\n\twhile a {\n\t\treturn;\n\t}\n}\n"
	kept, _ := printer.Print(m)
	wantText(t, m, want)
	sum := m.Funcs[0].Body[0].Exprs[0].Args
	sum[1].Args[0].Num = -1
	wantError(t, "a part of it changed", m, api.ErrTree)
	sum[1].Args[0].Num = 2
	m.Funcs[0].Body[1].Body[0] = result(null())
	wantText(t, m, "fn f() {\n\tx = a + f(2);\n\twhile a {\n\t\treturn null;\n\t}\n}\n")
	if kept != want {
		t.Errorf("%q", kept)
	}
}
