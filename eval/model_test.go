package eval_test

import (
	"slices"
	"testing"

	"tiltyard/api"
	"tiltyard/eval"
	"tiltyard/fix"
)

// The model knows no trees: each function becomes a list of instructions, with
// jumps in the place of all that is nested, and each costs 1 unit. So nothing of
// what is spent stands in it: that much has to come out of the instructions.

// instr is an instruction: what a and b are hangs on what it does.
type instr struct {
	do   string
	a, b int
}

// list is the instructions of a function.
type list struct{ code []instr }

func (l *list) add(do string, a, b int) { l.code = append(l.code, instr{do, a, b}) }

// jump adds one whose target comes later, by land.
func (l *list) jump(do string) int {
	l.add(do, -1, 0)
	return len(l.code) - 1
}

func (l *list) land(jump int) { l.code[jump].a = len(l.code) }

func (l *list) exprs(es []api.Expr) {
	for _, e := range es {
		l.expr(e)
	}
}

func (l *list) expr(e api.Expr) {
	switch e.Kind {
	case api.ExprInt, api.ExprFix, api.ExprBool, api.ExprNull:
		l.add("push", e.Num, 0)
	case api.ExprName:
		l.add("load", e.Place, 0)
	case api.ExprIndex:
		l.exprs(e.Args)
		l.add("at", -1-e.Place, 0)
	case api.ExprUnary:
		l.exprs(e.Args)
		l.add("unary", e.Op, e.Type)
	case api.ExprCall:
		l.exprs(e.Args)
		l.add("call", e.Place, len(e.Args))
	case api.ExprBoth:
		l.both(e)
	}
}

func (l *list) both(e api.Expr) {
	switch e.Op {
	case api.OpAnd:
		l.expr(e.Args[0])
		no := l.jump("unless")
		l.expr(e.Args[1])
		behind := l.jump("jump")
		l.land(no)
		l.add("push", 0, 0)
		l.land(behind)
	case api.OpOr:
		l.expr(e.Args[0])
		no := l.jump("unless")
		l.add("push", 1, 0)
		behind := l.jump("jump")
		l.land(no)
		l.expr(e.Args[1])
		l.land(behind)
	default:
		l.exprs(e.Args)
		l.add("both", e.Op, e.Args[0].Type)
	}
}

func (l *list) stmts(ss []api.Stmt) {
	for _, s := range ss {
		l.stmt(s)
	}
}

func (l *list) stmt(s api.Stmt) {
	switch s.Kind {
	case api.StmtIf:
		l.exprs(s.Exprs)
		no := l.jump("unless")
		l.stmts(s.Body)
		if len(s.Else) == 0 {
			l.land(no)
			return
		}
		behind := l.jump("jump")
		l.land(no)
		l.stmts(s.Else)
		l.land(behind)
	case api.StmtWhile:
		again := len(l.code)
		l.exprs(s.Exprs)
		no := l.jump("unless")
		l.stmts(s.Body)
		l.add("jump", again, 0)
		l.land(no)
	default:
		l.exprs(s.Exprs)
		switch s.Kind {
		case api.StmtLet, api.StmtSet:
			l.add("store", s.Place, 0)
		case api.StmtPut:
			l.add("put", -1-s.Place, 0)
		case api.StmtReturn:
			l.add("return", len(s.Exprs), 0)
		case api.StmtCall:
			if s.Exprs[0].Type != 0 {
				l.add("pop", 0, 0)
			}
		}
	}
}

// active is a function that is active: at is its next instruction.
type active struct {
	fn, at int
	locals []int
}

type machine struct {
	mod     api.Mod
	lists   []list
	replies []api.Reply
	active  []*active
	stack   []int
	end     api.End
	ended   bool
}

func modelOf(m api.Mod, state [][]int, fn int, args []int, fuel int, replies []api.Reply) api.End {
	x := &machine{mod: m, replies: replies}
	for _, f := range m.Funcs {
		l := list{}
		l.stmts(f.Body)
		l.add("return", 0, 0)
		x.lists = append(x.lists, l)
	}
	x.end.Fuel = fuel
	for _, values := range state {
		x.end.State = append(x.end.State, slices.Clone(values))
	}
	x.stack = slices.Clone(args)
	x.begin(fn)
	for !x.ended {
		x.step()
	}
	return x.end
}

func (x *machine) trap(n int) { x.end.Trap, x.ended = n, true }

func (x *machine) push(n int) { x.stack = append(x.stack, n) }

// pop answers the last n values, in the order in which they were pushed.
func (x *machine) pop(n int) []int {
	rest := len(x.stack) - n
	values := slices.Clone(x.stack[rest:])
	x.stack = x.stack[:rest]
	return values
}

func (x *machine) begin(fn int) {
	if len(x.active) >= api.MaxDepth {
		x.trap(api.TrapDepth)
		return
	}
	f := &active{fn: fn, locals: make([]int, api.MaxLocals)}
	copy(f.locals, x.pop(len(x.mod.Funcs[fn].Params)))
	x.active = append(x.active, f)
}

func (x *machine) step() {
	if x.end.Fuel--; x.end.Fuel < 0 {
		x.end.Fuel = 0
		x.trap(api.TrapFuel)
		return
	}
	f := x.active[len(x.active)-1]
	i := x.lists[f.fn].code[f.at]
	f.at++
	switch i.do {
	case "push":
		x.push(i.a)
	case "load":
		x.push(*x.variable(f, i.a))
	case "store":
		*x.variable(f, i.a) = x.pop(1)[0]
	case "at":
		x.element(x.end.State[i.a], x.pop(1)[0], func(element *int) { x.push(*element) })
	case "put":
		values := x.pop(2)
		x.element(x.end.State[i.a], values[0], func(element *int) { *element = values[1] })
	case "unary":
		x.push(opposite(i.a, i.b, x.pop(1)[0]))
	case "both":
		x.both(i.a, i.b, x.pop(2))
	case "unless":
		if x.pop(1)[0] == 0 {
			f.at = i.a
		}
	case "jump":
		f.at = i.a
	case "pop":
		x.pop(1)
	case "call":
		x.call(i.a, i.b)
	case "return":
		x.giveBack(i.a)
	}
}

func (x *machine) variable(f *active, place int) *int {
	if place < 0 {
		return &x.end.State[-1-place][0]
	}
	return &f.locals[place]
}

func (x *machine) element(array []int, index int, do func(*int)) {
	if uint(index) >= uint(len(array)) {
		x.trap(api.TrapIndex)
		return
	}
	do(&array[index])
}

func opposite(op, kind, n int) int {
	switch {
	case op == api.OpNot:
		return n ^ 1
	case kind == api.TyFix && n == api.MinInt:
		return api.MaxInt
	}
	return intResult(api.OpSub, 0, n)
}

func (x *machine) both(op, kind int, values []int) {
	a, b := values[0], values[1]
	switch {
	case op >= api.OpEq && op <= api.OpGe:
		x.compare(op, a, b)
	case b == 0 && (op == api.OpDiv || op == api.OpMod):
		x.trap(api.TrapDiv)
	case kind == api.TyInt:
		x.push(intResult(op, a, b))
	default:
		x.push(fixResult(op, a, b))
	}
}

// compare pushes whether that is one of the ways in which the numbers stand to
// each other.
func (x *machine) compare(op, a, b int) {
	ways := []int{api.OpEq, api.OpLe, api.OpGe}
	switch {
	case a < b:
		ways = []int{api.OpLt, api.OpLe, api.OpNe}
	case a > b:
		ways = []int{api.OpGt, api.OpGe, api.OpNe}
	}
	if slices.Contains(ways, op) {
		x.push(1)
	} else {
		x.push(0)
	}
}

func (x *machine) call(place, count int) {
	switch place {
	case api.PlaceToFix:
		x.push(fix.From(x.pop(1)[0]))
		return
	case api.PlaceToInt:
		x.push(fix.To(x.pop(1)[0]))
		return
	}
	if place >= 0 {
		x.begin(place)
		return
	}
	f := api.Calls()[-1-place]
	x.end.Asks = append(x.end.Asks, api.Ask{Call: -1 - place, Args: x.pop(count)})
	r := api.Reply{}
	if k := len(x.end.Asks); k <= len(x.replies) {
		r = x.replies[k-1]
	}
	switch {
	case r.Trap:
		x.trap(api.TrapCall)
	case f.Result == api.TyBool && r.Value != 0:
		x.push(1)
	case f.Result != 0:
		x.push(r.Value)
	}
}

func (x *machine) giveBack(count int) {
	x.active = x.active[:len(x.active)-1]
	if len(x.active) > 0 {
		return // the result stands on the stack already
	}
	x.ended = true
	if count > 0 {
		x.end.Value = x.pop(1)[0]
	}
}

// given is all that a run is given.
type given struct {
	source  string
	mod     api.Mod
	checked api.Mod
	state   [][]int
	fn      int
	args    []int
	replies []api.Reply
}

// wantAsModel asks that a run ends as the model says, and answers how.
func wantAsModel(t *testing.T, g given, fuel int) api.End {
	t.Helper()
	got, e := eval.Run(g.mod, g.state, g.fn, g.args, fuel, g.replies)
	if e != api.OK {
		t.Fatalf("Run of function %d of %s on %v with %v, fuel %d: %v", g.fn, g.source, g.state, g.args, fuel, e)
	}
	if want := modelOf(g.checked, g.state, g.fn, g.args, fuel, g.replies); tell(got) != tell(want) {
		t.Fatalf("Run of function %d of %s\non %v with %v, fuel %d, replies %v:\n%+v, want\n%+v", g.fn, g.source, g.state, g.args, fuel, g.replies, got, want)
	}
	return got
}
