package eval_test

import (
	"math/rand"
	"slices"
	"strconv"
	"strings"
	"testing"

	"tiltyard/api"
	"tiltyard/check"
	"tiltyard/printer"
)

// maker writes mods that pass the check. The second letter of a variable's name
// is the first one of its type.
type maker struct {
	*rand.Rand
	text    []byte
	funcs   []api.Sys
	visible []api.Param
	count   int // the local variables of the function
	result  int
	budget  int // the parts that there may be yet
}

func (r *maker) chance(percent int) bool { return r.Intn(100) < percent }

func (r *maker) kind() int { return 1 + r.Intn(4) }

func (r *maker) spend() bool {
	r.budget--
	return r.budget > 0
}

func pick[T any](r *maker, all ...T) T { return all[r.Intn(len(all))] }

func (r *maker) put(s ...string) {
	for _, part := range s {
		r.text = append(r.text, part...)
	}
}

func letter(kind int) string { return kindWords()[kind][:1] }

func (r *maker) writeMod() string {
	for kind := api.TyInt; kind <= api.TyEnt; kind++ {
		value := pick(r, "", "", "="+[]string{"", "-3", "1.5", "true", "null"}[kind])
		r.put("var g", letter(kind), ":", kindWords()[kind], value, ";")
		r.put("var a", letter(kind), ":[", strconv.Itoa(kind), "]", kindWords()[kind], ";")
	}
	for i := range 5 {
		f := api.Sys{Name: "f" + strconv.Itoa(i), Result: r.Intn(5)}
		for range r.Intn(4) {
			f.Params = append(f.Params, r.kind())
		}
		r.funcs = append(r.funcs, f)
	}
	for _, f := range r.funcs {
		r.writeFunc(f)
	}
	return string(r.text)
}

func (r *maker) writeFunc(f api.Sys) {
	r.visible, r.count, r.result, r.budget = nil, 0, f.Result, 10+r.Intn(60)
	r.put("fn ", f.Name, "(")
	for i, kind := range f.Params {
		if i > 0 {
			r.put(",")
		}
		r.put(r.declare(kind), ":", kindWords()[kind])
	}
	r.put(")")
	if f.Result != 0 {
		r.put(":", kindWords()[f.Result])
	}
	r.writeBlock(f.Result != 0)
}

func (r *maker) declare(kind int) string {
	name := "l" + letter(kind) + strconv.Itoa(r.count)
	r.count++
	r.visible = append(r.visible, api.Param{Name: name, Type: kind})
	return name
}

// writeBlock writes one that always returns, if it has to.
func (r *maker) writeBlock(end bool) {
	before := len(r.visible)
	r.put("{")
	for r.chance(75) && r.spend() {
		r.writeStmt()
	}
	if end {
		r.writeReturn()
	}
	r.put("}")
	r.visible = r.visible[:before]
}

func (r *maker) writeReturn() {
	r.put("return")
	if r.result != 0 {
		r.put(" ", r.expr(r.result, 3))
	}
	r.put(";")
}

func (r *maker) writeStmt() {
	kind := r.kind()
	switch r.Intn(12) {
	case 0, 1:
		if r.count < api.MaxLocals {
			e := r.expr(kind, 3)
			r.put("let ", r.declare(kind), ":", kindWords()[kind], "=", e, ";")
		}
	case 2, 3, 4:
		r.put(r.name(kind), "=", r.expr(kind, 3), ";")
	case 5, 6:
		r.put("a", letter(kind), "[", r.index(kind), "]=", r.expr(kind, 2), ";")
	case 7:
		r.put("while ", r.expr(api.TyBool, 2))
		r.writeBlock(false)
	case 8, 9:
		r.put("if ", r.expr(api.TyBool, 2))
		r.writeBlock(false)
		if r.chance(50) {
			r.put("else")
			r.writeBlock(false)
		}
	case 10:
		r.put(r.call(r.Intn(5), 2), ";")
	case 11:
		if r.chance(15) {
			r.writeReturn()
		}
	}
}

// name is that of a variable.
func (r *maker) name(kind int) string {
	all := []string{"g" + letter(kind)}
	for _, v := range r.visible {
		if v.Type == kind {
			all = append(all, v.Name, v.Name)
		}
	}
	return pick(r, all...)
}

// index is mostly one that the array of that type has: it has as many elements
// as the number of the type.
func (r *maker) index(kind int) string {
	if r.chance(90) {
		return strconv.Itoa(r.Intn(kind))
	}
	return r.expr(api.TyInt, 2)
}

func (r *maker) expr(kind, levels int) string {
	if levels == 0 || r.chance(25) || !r.spend() {
		return r.atom(kind)
	}
	switch n := r.Intn(10); {
	case n < 2:
		return r.call(kind, levels-1)
	case n == 2:
		return "a" + letter(kind) + "[" + r.index(kind) + "]"
	case n == 3 && kind <= api.TyFix:
		return "-" + r.operand(kind, levels-1)
	case n == 3 && kind == api.TyBool:
		return "!" + r.operand(kind, levels-1)
	case kind == api.TyEnt:
		return r.atom(kind)
	}
	return r.both(kind, levels-1)
}

func (r *maker) operand(kind, levels int) string { return "(" + r.expr(kind, levels) + ")" }

func (r *maker) both(kind, levels int) string {
	op := pick(r, "+", "-", "*", "+", "-", "*", "/")
	switch {
	case kind == api.TyInt && r.chance(10):
		op = "%"
	case kind == api.TyBool && r.chance(50):
		op = pick(r, "&&", "||")
	case kind == api.TyBool:
		kind = r.kind()
		op = pick(r, "==", "!=")
		if kind <= api.TyFix {
			op = pick(r, op, "<", "<=", ">", ">=")
		}
	}
	return r.operand(kind, levels) + op + r.operand(kind, levels)
}

func (r *maker) atom(kind int) string {
	if r.chance(65) {
		return r.name(kind)
	}
	switch kind {
	case api.TyInt:
		return pick(r, "0", "1", "2", "3", "10", "9223372036854775807")
	case api.TyFix:
		return pick(r, "0.0", "0.5", "1.0", "2.5", "2147483647.75")
	case api.TyBool:
		return pick(r, "true", "false")
	}
	return "null"
}

// call is one of a function with that result, which may be none.
func (r *maker) call(result, levels int) string {
	all := []api.Sys{}
	for _, f := range slices.Concat(r.funcs, r.funcs, api.Calls(), []api.Sys{{Name: "tofix", Params: []int{api.TyInt}, Result: api.TyFix}, {Name: "toint", Params: []int{api.TyFix}, Result: api.TyInt}}) {
		if f.Result == result {
			all = append(all, f)
		}
	}
	f, args := pick(r, all...), []string{}
	for _, kind := range f.Params {
		args = append(args, r.expr(kind, levels))
	}
	return f.Name + "(" + strings.Join(args, ",") + ")"
}

func (r *maker) value(kind int) int {
	if kind == api.TyBool {
		return r.Intn(2)
	}
	return pick(r, 0, 1, -1, 2, 3, r.Intn(100), r.Intn(100)*half, pick(r, numbers()...))
}

func (r *maker) replies() []api.Reply {
	l := []api.Reply{}
	for r.chance(85) {
		l = append(l, api.Reply{Value: r.value(1 + r.Intn(2)), Trap: r.chance(5)})
	}
	return l
}

// made is a mod, and what a run of one of its functions can be given.
func made(t *testing.T, seed int64) given {
	t.Helper()
	r := &maker{Rand: rand.New(rand.NewSource(seed))}
	g := given{source: r.writeMod(), fn: r.Intn(5), replies: r.replies()}
	g.mod = parsed(t, g.source)
	checked, f := check.Check(g.mod)
	if f.Code != api.OK {
		t.Fatalf("Check of %q: %v", g.source, f)
	}
	g.checked = checked
	for _, v := range g.mod.Vars {
		values := []int{}
		for range max(v.Size, 1) {
			values = append(values, r.value(v.Type))
		}
		g.state = append(g.state, values)
	}
	for _, kind := range r.funcs[g.fn].Params {
		g.args = append(g.args, r.value(kind))
	}
	return g
}

const most = 3000 // fuel for a run that is to come to its end

func TestMadeMods(t *testing.T) {
	traps, values, asks, changed := [6]int{}, map[int]int{}, 0, 0
	for seed := range int64(3000) {
		g := made(t, seed)
		end := wantAsModel(t, g, most)
		traps[end.Trap]++
		values[end.Value]++
		asks += len(end.Asks)
		if tell(end.State) != tell(g.state) {
			changed++
		}
		r := rand.New(rand.NewSource(seed))
		for range 3 {
			wantAsModel(t, g, r.Intn(1+min(most, most-end.Fuel)))
		}
	}
	if slices.Min(traps[:]) < 80 || len(values) < 100 || asks < 5000 || changed < 800 {
		t.Errorf("%v traps, %d values, %d asks and %d other states are too few", traps, len(values), asks, changed)
	}
}

// P12.6 and P12.7

// wantPrefix asks that a run with less fuel is the beginning of another one.
func wantPrefix(t *testing.T, g given, less, more api.End) {
	t.Helper()
	if less.Fuel != 0 || less.Value != 0 || len(less.Asks) > len(more.Asks) || tell(less.Asks) != tell(more.Asks[:len(less.Asks)]) {
		t.Fatalf("Run of function %d of %s: %+v, and with more fuel %+v", g.fn, g.source, less, more)
	}
}

func TestFuelAlone(t *testing.T) {
	const most = 200
	whole := 0
	for seed := range int64(120) {
		g := made(t, seed)
		last := wantAsModel(t, g, most)
		spent := most - last.Fuel
		if last.Trap == api.TrapFuel {
			spent = most + 1
		} else {
			whole++
		}
		for fuel := range most + 1 {
			end := wantAsModel(t, g, fuel)
			if fuel < spent && end.Trap != api.TrapFuel || len(end.Asks) > fuel-end.Fuel {
				t.Fatalf("Run of function %d of %s, fuel %d: %+v", g.fn, g.source, fuel, end)
			}
			if fuel < spent {
				wantPrefix(t, g, end, last)
				continue
			}
			want := last
			want.Fuel = fuel - spent
			if tell(end) != tell(want) {
				t.Fatalf("Run of function %d of %s, fuel %d: %+v, want %+v", g.fn, g.source, fuel, end, want)
			}
		}
	}
	if whole < 60 {
		t.Errorf("only %d runs come to an end", whole)
	}
}

// T1

func TestOtherTextsOfTheSameTree(t *testing.T) {
	for seed := range int64(200) {
		g := made(t, seed)
		want := tell(wantAsModel(t, g, most))
		printed, e := printer.Print(g.mod)
		if e != api.OK {
			t.Fatal(e)
		}
		for _, source := range []string{printed, "# a remark\n" + strings.ReplaceAll(g.source, ";", " ;\n")} {
			g.mod = parsed(t, source)
			if got := tell(wantAsModel(t, g, most)); got != want {
				t.Fatalf("Run of function %d of %s: %s, and of %s: %s", g.fn, g.source, want, source, got)
			}
		}
	}
}
