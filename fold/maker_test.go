package fold_test

import (
	"math/rand"
	"slices"
	"strconv"
	"strings"
	"testing"

	"tiltyard/api"
	"tiltyard/check"
	"tiltyard/eval"
	"tiltyard/fold"
)

// maker writes mods with much to fold that pass the check. The second letter of
// a variable's name is the first one of its type.
type maker struct {
	*rand.Rand
	text    strings.Builder
	funcs   []api.Sys
	visible []api.Param
	count   int // the local variables of the function
	result  int
	budget  int // the parts that there may be yet
}

func kindWord(kind int) string { return []string{"", "int", "fix", "bool", "ent"}[kind] }

func letter(kind int) string { return kindWord(kind)[:1] }

func pick[T any](r *maker, all ...T) T { return all[r.Intn(len(all))] }

func (r *maker) chance(percent int) bool { return r.Intn(100) < percent }

func (r *maker) kind() int { return 1 + r.Intn(4) }

func (r *maker) spend() bool {
	r.budget--
	return r.budget > 0
}

func (r *maker) put(s ...string) {
	for _, part := range s {
		r.text.WriteString(part)
	}
}

func (r *maker) writeMod() string {
	for kind := api.TyInt; kind <= api.TyEnt; kind++ {
		r.put("var g", letter(kind), ":", kindWord(kind), ";var a", letter(kind), ":[", strconv.Itoa(kind), "]", kindWord(kind), ";")
	}
	for i := range 5 {
		f := api.Sys{Name: "f" + strconv.Itoa(i), Result: i}
		for range r.Intn(3) {
			f.Params = append(f.Params, r.kind())
		}
		r.funcs = append(r.funcs, f)
	}
	for _, f := range r.funcs {
		r.writeFunc(f)
	}
	return r.text.String()
}

func (r *maker) writeFunc(f api.Sys) {
	r.visible, r.count, r.result, r.budget = nil, 0, f.Result, 10+r.Intn(80)
	params := []string{}
	for _, kind := range f.Params {
		params = append(params, r.declare(kind)+":"+kindWord(kind))
	}
	r.put("fn ", f.Name, "(", strings.Join(params, ","), ")")
	if f.Result != 0 {
		r.put(":", kindWord(f.Result))
	}
	r.writeBlock(f.Result != 0, 4)
}

func (r *maker) declare(kind int) string {
	name := "l" + letter(kind) + strconv.Itoa(r.count)
	r.count++
	r.visible = append(r.visible, api.Param{Name: name, Type: kind})
	return name
}

// writeBlock writes one that always returns, if it has to.
func (r *maker) writeBlock(end bool, levels int) {
	before := len(r.visible)
	r.put("{")
	for r.chance(75) && r.spend() {
		r.writeStmt(levels)
	}
	if end && r.chance(30) && levels > 0 {
		r.put("if ", r.condition())
		r.writeBlock(true, levels-1)
		r.put("else")
		r.writeBlock(true, levels-1)
	} else if end || r.chance(15) {
		r.writeReturn()
	}
	r.put("}")
	r.visible = r.visible[:before]
}

func (r *maker) writeReturn() {
	r.put("return")
	if r.result != 0 {
		r.put(" ", r.expr(r.result, 3))
	}
	r.put(";")
}

func (r *maker) condition() string {
	return pick(r, "true", "false", "1<2", r.expr(api.TyBool, 3), r.expr(api.TyBool, 2))
}

func (r *maker) writeStmt(levels int) {
	kind := r.kind()
	switch n := r.Intn(12); {
	case n == 0 && r.count < api.MaxLocals:
		e := r.expr(kind, 3)
		r.put("let ", r.declare(kind), ":", kindWord(kind), "=", e, ";")
	case n <= 3:
		r.put(r.name(kind), "=", r.expr(kind, 3), ";")
	case n <= 5:
		r.put("a", letter(kind), "[", r.index(kind), "]=", r.expr(kind, 2), ";")
	case n == 6 && levels > 0:
		r.put("while ", r.condition())
		r.writeBlock(false, levels-1)
	case n <= 9 && levels > 0:
		r.put("if ", r.condition())
		r.writeBlock(r.chance(10), levels-1)
		if r.chance(50) {
			r.put("else")
			r.writeBlock(r.chance(10), levels-1)
		}
	case n == 10:
		r.writeReturn()
	default:
		r.put(r.call(r.Intn(5), 2), ";")
	}
}

// name is that of a variable.
func (r *maker) name(kind int) string {
	all := []string{"g" + letter(kind)}
	for _, v := range r.visible {
		if v.Type == kind {
			all = append(all, v.Name, v.Name)
		}
	}
	return pick(r, all...)
}

// index is mostly one that the array of that type has: it has as many elements
// as the number of the type.
func (r *maker) index(kind int) string {
	if r.chance(80) {
		return strconv.Itoa(r.Intn(kind))
	}
	return r.expr(api.TyInt, 2)
}

func (r *maker) expr(kind, levels int) string {
	if levels == 0 || r.chance(20) || !r.spend() {
		return r.atom(kind)
	}
	switch n := r.Intn(10); {
	case n == 0 || n == 1 && kind <= api.TyFix:
		return r.call(kind, levels-1)
	case n == 2:
		return "a" + letter(kind) + "[" + r.index(kind) + "]"
	case n == 3 && kind <= api.TyFix:
		return "-(" + r.expr(kind, levels-1) + ")"
	case n <= 4 && kind == api.TyBool:
		return "!" + pick(r, "!(", "(") + r.expr(kind, levels-1) + ")"
	case kind == api.TyEnt:
		return r.atom(kind)
	}
	return r.both(kind, levels-1)
}

func (r *maker) both(kind, levels int) string {
	op := pick(r, "+", "-", "*", "+", "*", "/")
	switch {
	case kind == api.TyInt && r.chance(10):
		op = "%"
	case kind == api.TyBool && r.chance(60):
		op = pick(r, "&&", "||")
	case kind == api.TyBool:
		kind = r.kind()
		op = pick(r, "==", "!=")
		if kind <= api.TyFix {
			op = pick(r, op, "<", "<=", ">", ">=")
		}
	}
	return "(" + r.expr(kind, levels) + ")" + op + "(" + r.expr(kind, levels) + ")"
}

func (r *maker) atom(kind int) string {
	if r.chance(35) {
		return r.name(kind)
	}
	switch kind {
	case api.TyInt:
		return pick(r, "0", "1", "2", "3", "10", maxInt)
	case api.TyFix:
		return pick(r, "0.0", "0.5", "1.0", "2.5", "2147483647.75")
	case api.TyBool:
		return pick(r, "true", "false")
	}
	return "null"
}

// call is one of a function with that result, which may be none.
func (r *maker) call(result, levels int) string {
	convert := []api.Sys{{Name: "tofix", Params: []int{api.TyInt}, Result: api.TyFix}, {Name: "toint", Params: []int{api.TyFix}, Result: api.TyInt}}
	all := []api.Sys{}
	for _, f := range slices.Concat(r.funcs, api.Calls(), convert, convert, convert) {
		if f.Result == result {
			all = append(all, f)
		}
	}
	f, args := pick(r, all...), []string{}
	for _, kind := range f.Params {
		args = append(args, r.expr(kind, levels))
	}
	return f.Name + "(" + strings.Join(args, ",") + ")"
}

func (r *maker) value(kind int) int {
	if kind == api.TyBool {
		return r.Intn(2)
	}
	return pick(r, 0, 1, -1, 2, 3, api.MinInt, api.MaxInt, api.One, -api.One/2, r.Intn(100))
}

// given is a mod, and what a run of one of its functions is given.
type given struct {
	source  string
	mod     api.Mod
	state   [][]int
	fn      int
	args    []int
	replies []api.Reply
}

func (g given) run(t *testing.T, m api.Mod, fuel int) api.End {
	t.Helper()
	end, e := eval.Run(m, g.state, g.fn, g.args, fuel, g.replies)
	if e != api.OK {
		t.Fatalf("Run of function %d of %s: %v", g.fn, g.source, e)
	}
	return end
}

func made(t *testing.T, seed int64) given {
	t.Helper()
	r := &maker{Rand: rand.New(rand.NewSource(seed))}
	g := given{source: r.writeMod(), fn: r.Intn(5)}
	g.mod = parsed(t, g.source)
	if _, f := check.Check(g.mod); f.Code != api.OK {
		t.Fatalf("Check of %q: %v", g.source, f)
	}
	for _, v := range g.mod.Vars {
		values := []int{}
		for range max(v.Size, 1) {
			values = append(values, r.value(v.Type))
		}
		g.state = append(g.state, values)
	}
	for _, kind := range r.funcs[g.fn].Params {
		g.args = append(g.args, r.value(kind))
	}
	for r.chance(85) {
		g.replies = append(g.replies, api.Reply{Value: r.value(1 + r.Intn(2)), Trap: r.chance(5)})
	}
	return g
}

// P13.3

// wantSameForLess asks that a run which does not end for want of fuel ends the
// same way when the tree is folded, with no less fuel left.
func wantSameForLess(t *testing.T, g given, m api.Mod, fuel int) (before, behind api.End) {
	t.Helper()
	before, behind = g.run(t, g.mod, fuel), g.run(t, m, fuel)
	same := before
	same.Fuel = behind.Fuel
	if before.Trap != api.TrapFuel && (tell(same) != tell(behind) || behind.Fuel < before.Fuel) {
		t.Fatalf("Run of function %d, fuel %d, of %s: %+v, and of the folded\n%s: %+v", g.fn, fuel, g.source, before, printed(t, m), behind)
	}
	return before, behind
}

func TestSameForLess(t *testing.T) {
	traps, less, asks := [6]int{}, 0, 0
	for seed := range int64(2000) {
		g := made(t, seed)
		m, e := fold.Fold(g.mod)
		if e != api.OK {
			continue
		}
		const most = 2000
		before, behind := wantSameForLess(t, g, m, most)
		traps[before.Trap]++
		asks += len(before.Asks)
		if before.Trap != api.TrapFuel && behind.Fuel > before.Fuel {
			less++
		}
		// With just enough for it, or less.
		wantSameForLess(t, g, m, most-before.Fuel)
		wantSameForLess(t, g, m, int(seed)%(1+most-before.Fuel))
	}
	if slices.Min(append(traps[:api.TrapDepth], traps[api.TrapCall])) < 30 || less < 1000 || asks < 1000 {
		t.Errorf("%v traps, %d runs with more fuel left and %d asks are too few", traps, less, asks)
	}
}

func TestSameAtTheEdges(t *testing.T) {
	for _, s := range []string{
		"fn f():int{return f()+(1+1);}",                                                     // TrapDepth
		"var a:[2]int;fn f():int{return a[1+1]+1/0;}",                                       // TrapIndex comes first
		"fn f():int{return 1/0+2%0;}",                                                       // TrapDiv
		"fn f():bool{return kill2()&&false||true;}fn kill2():bool{kill(null);return true;}", // what asks stays
		"fn f():bool{return false&&kill2()||true||kill2();}fn kill2():bool{kill(null);return true;}",
		"var v:int;fn f(){if true{v=1;if true{let v2:int=v+1;v=v2;}}else{v=9;}while false{v=7;}v=v*2;return;v=5;}",
		"var v:int;fn f(){if v<1{v=v+1;}else{if false{v=3;}}tofix(v+(1+1));toint(-1.5);return;tofix(1);}",
		"fn f():int{while true{if true{return 1+1;}}return 3;}",
		"fn f():fix{return (2147483647.5+2147483647.5)*0.5-tofix(" + maxInt + ")/0.25;}",
		"fn f():int{return -(-(" + maxInt + "-0))*" + maxInt + "*3;}",
	} {
		g := given{source: s, mod: parsed(t, s)}
		g.state, _ = eval.Start(g.mod)
		for fuel := range 300 {
			wantSameForLess(t, g, folded(t, s), fuel)
		}
	}
}
