package eval_test

import (
	"fmt"
	"slices"
	"strings"
	"testing"

	"tiltyard/api"
	"tiltyard/eval"
	"tiltyard/parse"
)

// tell is anything as text: by it a nil list and an empty one are the same.
func tell(x any) string { return fmt.Sprintf("%+v", x) }

// short spares a message the whole of a long source.
func short(s string) string { return s[:min(len(s), 400)] }

func parsed(t *testing.T, s string) api.Mod {
	t.Helper()
	m, f := parse.Parse(s)
	if f.Code != api.OK {
		t.Fatalf("Parse(%q): %v", short(s), f)
	}
	return m
}

func started(t *testing.T, m api.Mod) [][]int {
	t.Helper()
	state, e := eval.Start(m)
	if e != api.OK {
		t.Fatalf("Start of %s: %v", short(tell(m)), e)
	}
	return state
}

// call is a run of the first function of a mod, but for its fuel. No state
// stands for the first one.
type call struct {
	source  string
	state   [][]int
	args    []int
	replies []api.Reply
}

func (c call) run(t *testing.T, fuel int) api.End {
	t.Helper()
	m := parsed(t, c.source)
	if c.state == nil {
		c.state = started(t, m)
	}
	end, e := eval.Run(m, c.state, 0, c.args, fuel, c.replies)
	if e != api.OK {
		t.Fatalf("Run of %q with %v, fuel %d: %v", short(c.source), c.args, fuel, e)
	}
	return end
}

// wantSpent asks how a run ends that has enough fuel, and that it needs that
// much: with a unit less there is none left for what it does last.
func (c call) wantSpent(t *testing.T, trap, value, spent int) api.End {
	t.Helper()
	told := fmt.Sprintf("Run of %q with %v", short(c.source), c.args)
	for _, more := range []int{0, 1, 1000, api.MaxFuel - spent} {
		end := c.run(t, spent+more)
		if end.Trap != trap || end.Value != value || end.Fuel != more {
			t.Errorf("%s, fuel %d: trap %d, value %d, fuel %d; want %d, %d, %d", told, spent+more, end.Trap, end.Value, end.Fuel, trap, value, more)
		}
	}
	if spent > 0 {
		if end := c.run(t, spent-1); end.Trap != api.TrapFuel || end.Value != 0 || end.Fuel != 0 {
			t.Errorf("%s, fuel %d: trap %d, value %d, fuel %d; want TrapFuel", told, spent-1, end.Trap, end.Value, end.Fuel)
		}
	}
	return c.run(t, api.MaxFuel)
}

// asked is a list of asks as text, each with its number and its arguments.
func asked(asks []api.Ask) string {
	l := []string{}
	for _, a := range asks {
		l = append(l, fmt.Sprint(a.Call, a.Args))
	}
	return strings.Join(l, " ")
}

func wantAsks(t *testing.T, told string, end api.End, want string) {
	t.Helper()
	if got := asked(end.Asks); got != want {
		t.Errorf("Run of %q asks %s, want %s", short(told), got, want)
	}
}

func wantState(t *testing.T, told string, end api.End, want [][]int) {
	t.Helper()
	if !slices.EqualFunc(end.State, want, slices.Equal) {
		t.Errorf("Run of %q leaves %v, want %v", short(told), end.State, want)
	}
}

func replies(values ...int) []api.Reply {
	l := []api.Reply{}
	for _, n := range values {
		l = append(l, api.Reply{Value: n})
	}
	return l
}

func TestExamples(t *testing.T) {
	const s = "fn f(x:int):int{if x>0&&10/x>1{return x*2;}return 0;}"
	call{source: s, args: []int{3}}.wantSpent(t, 0, 6, 15)
	call{source: s, args: []int{0}}.wantSpent(t, 0, 0, 8)
	if end := (call{source: s, args: []int{3}}).run(t, 100); end.Fuel != 85 {
		t.Error(end)
	}
}

// P12.1

func TestStart(t *testing.T) {
	const s = "var a:int=-7;var b:fix=1.5;var c:bool=true;var d:ent=null;var e:[3]int;var f:[1]bool;var g:int;var h:bool;" +
		"var i:int=-9223372036854775807;var j:int=9223372036854775807;var k:fix=-0.5;var l:[256]ent;"
	want := [][]int{{-7}, {3 * api.One / 2}, {1}, {0}, {0, 0, 0}, {0}, {0}, {0}, {-api.MaxInt}, {api.MaxInt}, {-api.One / 2}, make([]int, 256)}
	got, e := eval.Start(parsed(t, s))
	if e != api.OK || !slices.EqualFunc(got, want, slices.Equal) {
		t.Errorf("Start of %q: %v, %v, want %v", s, got, e, want)
	}
	for _, s := range []string{"", "fn f(){}"} {
		if got, e := eval.Start(parsed(t, s)); e != api.OK || len(got) != 0 {
			t.Errorf("Start of %q: %v, %v", s, got, e)
		}
	}
}

func TestStartIsThatOfTheTree(t *testing.T) {
	m := api.Mod{Vars: []api.Var{{Name: "a", Type: api.TyInt, Value: 5}, {Name: "b", Type: api.TyFix, Size: 2}}}
	if got := started(t, m); tell(got) != "[[5] [0 0]]" {
		t.Error(got)
	}
}

// wrongMods are not to be run, each for another reason.
func wrongMods(t *testing.T) []api.Mod {
	long := parsed(t, "fn f(){"+strings.Repeat("f();", api.MaxBody)+"}")
	for i := range 40 {
		long.Funcs = append(long.Funcs, long.Funcs[0])
		long.Funcs[i+1].Name += strings.Repeat("x", i%20)
	}
	l := []api.Mod{
		long,
		{Funcs: []api.Func{{}}},
		{Vars: []api.Var{{Name: "a"}}},
		{Vars: []api.Var{{Name: "a", Type: api.TyBool, Value: 2}}},
		{Vars: []api.Var{{Name: "a", Type: api.TyInt, Size: 2, Value: 2}}},
		{Vars: []api.Var{{Name: "a", Type: api.TyInt, Size: -1}}},
		{Funcs: []api.Func{{Name: "f", Body: []api.Stmt{{Kind: api.StmtReturn, Exprs: make([]api.Expr, 1)}}}}},
	}
	for _, s := range []string{
		"var a:int;var a:int;", "fn kill(){}", "fn f(){x=1;}", "fn f(){g();}", "fn f(){if 1{}}", "fn f(){f(1);}",
		"fn f():int{}", "fn f(){return 1;}", "fn tick(x:int){}", "fn f(){}fn g(){let a:fix=1;}",
	} {
		l = append(l, parsed(t, s))
	}
	return l
}

func TestErrRun(t *testing.T) {
	for _, m := range wrongMods(t) {
		if state, e := eval.Start(m); e != api.ErrRun || len(state) != 0 {
			t.Errorf("Start of %s: %v, %v", short(tell(m)), state, e)
		}
		// Whatever the other arguments are.
		for _, fuel := range []int{10, -1} {
			for _, fn := range []int{0, -1, 5} {
				end, e := eval.Run(m, make([][]int, len(m.Vars)), fn, nil, fuel, nil)
				if e != api.ErrRun || tell(end) != tell(api.End{}) {
					t.Errorf("Run of %s: %v, %v", short(tell(m)), end, e)
				}
			}
		}
	}
}

// wantRun asks whether a run of a function of the mod below can be.
func wantRun(t *testing.T, state [][]int, fn int, args []int, fuel int, want api.Errno) {
	t.Helper()
	const s = "var a:int;var b:[3]int;var c:bool;var d:[2]bool;var e:ent;var f:[1]fix;" +
		"fn g(){}fn h(x:int,y:bool,z:ent,w:fix){}fn i(x:bool,y:bool){}"
	end, e := eval.Run(parsed(t, s), state, fn, args, fuel, nil)
	if e != want || e != api.OK && tell(end) != tell(api.End{}) {
		t.Errorf("Run of function %d on %v with %v, fuel %d: %v, %v, want %v", fn, state, args, fuel, end, e, want)
	}
}

func rightState() [][]int { return [][]int{{1}, {2, 3, 4}, {1}, {0, 1}, {5}, {6}} }

func TestStates(t *testing.T) {
	wantRun(t, rightState(), 0, nil, 9, api.OK)
	wantRun(t, [][]int{{-1}, {api.MinInt, api.MaxInt, 2}, {0}, {1, 1}, {-5}, {api.MinInt}}, 0, nil, 9, api.OK)
	wantRun(t, nil, 0, nil, 9, api.ErrArg)
	wantRun(t, append(rightState(), []int{1}), 0, nil, 9, api.ErrArg)
	wantRun(t, append(rightState(), nil), 0, nil, 9, api.ErrArg)
	wantRun(t, rightState()[:5], 0, nil, 9, api.ErrArg)
	for i, values := range rightState() {
		for _, wrong := range [][]int{nil, {}, append(slices.Clone(values), 0), values[1:], make([]int, 300)} {
			state := rightState()
			state[i] = wrong
			wantRun(t, state, 0, nil, 9, api.ErrArg)
		}
		for k := range values {
			for _, n := range []int{-1, 2, 256, api.MinInt, api.MaxInt, 1 << 32} {
				state, want := rightState(), api.OK
				state[i][k] = n
				if i == 2 || i == 3 {
					want = api.ErrArg
				}
				wantRun(t, state, 0, nil, 9, want)
			}
		}
	}
	// A mod without variables has one state.
	for _, state := range [][][]int{nil, {}} {
		if _, e := eval.Run(parsed(t, "fn f(){}"), state, 0, nil, 9, nil); e != api.OK {
			t.Error(e)
		}
	}
	if _, e := eval.Run(parsed(t, "fn f(){}"), [][]int{{0}}, 0, nil, 9, nil); e != api.ErrArg {
		t.Error(e)
	}
}

func TestFunctionsAndArguments(t *testing.T) {
	for _, fn := range []int{-1, 3, 64, api.MinInt, api.MaxInt, -101} {
		wantRun(t, rightState(), fn, nil, 9, api.ErrArg)
	}
	if _, e := eval.Run(parsed(t, ""), nil, 0, nil, 9, nil); e != api.ErrArg {
		t.Error(e)
	}
	wantRun(t, rightState(), 0, []int{}, 9, api.OK)
	wantRun(t, rightState(), 0, []int{0}, 9, api.ErrArg)
	wantRun(t, rightState(), 1, []int{7, 1, 7, 7}, 9, api.OK)
	wantRun(t, rightState(), 1, []int{-7, 0, api.MinInt, api.MaxInt}, 9, api.OK)
	wantRun(t, rightState(), 1, nil, 9, api.ErrArg)
	wantRun(t, rightState(), 1, []int{7, 1, 7}, 9, api.ErrArg)
	wantRun(t, rightState(), 1, []int{7, 1, 7, 7, 7}, 9, api.ErrArg)
	for _, n := range []int{-1, 2, 3, 256, api.MinInt, api.MaxInt} {
		wantRun(t, rightState(), 1, []int{n, 1, n, n}, 9, api.OK)
		wantRun(t, rightState(), 1, []int{7, n, 7, 7}, 9, api.ErrArg)
		wantRun(t, rightState(), 2, []int{n, 0}, 9, api.ErrArg)
		wantRun(t, rightState(), 2, []int{1, n}, 9, api.ErrArg)
	}
}

func TestFuel(t *testing.T) {
	for _, fuel := range []int{0, 1, 1000, api.MaxFuel - 1, api.MaxFuel} {
		wantRun(t, rightState(), 0, nil, fuel, api.OK)
	}
	for _, fuel := range []int{-1, api.MinInt, api.MaxFuel + 1, api.MaxInt} {
		wantRun(t, rightState(), 0, nil, fuel, api.ErrArg)
	}
}

func TestWhichFunctionRuns(t *testing.T) {
	m := parsed(t, "fn f():int{return 10;}fn g(x:int):int{return x+20;}fn h(x:int,y:int):int{return x-y+30;}")
	for fn, want := range []int{10, 27, 37} {
		if end, e := eval.Run(m, nil, fn, []int{7, 0}[:fn], 100, nil); e != api.OK || end.Value != want {
			t.Errorf("function %d: %v, %v", fn, end, e)
		}
	}
}

// littered is a tree in which something stands already of what a check tells.
func littered(m api.Mod) api.Mod {
	for i := range m.Funcs {
		m.Funcs[i].Locals = []int{9, 9}
		litterStmts(m.Funcs[i].Body)
	}
	return m
}

func litterStmts(l []api.Stmt) {
	for i := range l {
		l[i].Place = 77
		litterExprs(l[i].Exprs)
		litterStmts(l[i].Body)
		litterStmts(l[i].Else)
	}
}

func litterExprs(l []api.Expr) {
	for i := range l {
		l[i].Type, l[i].Place = 3, -55
		litterExprs(l[i].Args)
	}
}

func TestWhatStandsInTheTreeDoesNotMatter(t *testing.T) {
	const s = "var g:int=3;var a:[2]fix;fn f(p:int):fix{let x:int=p+g;a[1]=tofix(x)*-1.5;if x>5&&!(x==0){h(x);}else{return 1.0;}return a[1];}fn h(y:int){g=y;}"
	m := parsed(t, s)
	want, e := eval.Run(m, started(t, m), 0, []int{7}, 100, nil)
	if e != api.OK || want.Value != -15*api.One || tell(want.State) != tell([][]int{{10}, {0, -15 * api.One}}) {
		t.Fatal(want, e)
	}
	m = littered(parsed(t, s))
	got, e := eval.Run(m, started(t, m), 0, []int{7}, 100, nil)
	if e != api.OK || tell(got) != tell(want) {
		t.Errorf("%v, %v, want %v", got, e, want)
	}
}

// P12.1: what the end tells

func TestTheStateAtTheEnd(t *testing.T) {
	const s = "var n:int=5;var a:[3]int;var b:bool;fn f(i:int,v:int){n=v;a[i]=n;b=true;n=10/v;}"
	run := func(i, v, trap int, want [][]int) {
		t.Helper()
		end := call{source: s, args: []int{i, v}}.run(t, 100)
		if end.Trap != trap || end.Value != 0 {
			t.Errorf("trap %d, value %d, want %d", end.Trap, end.Value, trap)
		}
		wantState(t, s, end, want)
	}
	run(2, 7, 0, [][]int{{1}, {0, 0, 7}, {1}})
	// After a trap, it is what it was by then.
	run(1, 0, api.TrapDiv, [][]int{{0}, {0, 0, 0}, {1}})
	run(3, 7, api.TrapIndex, [][]int{{7}, {0, 0, 0}, {0}})
	for fuel, want := range []string{1: "[[5] [0 0 0] [0]]", 2: "[[7] [0 0 0] [0]]", 4: "[[7] [0 0 0] [0]]", 5: "[[7] [7 0 0] [0]]", 6: "[[7] [7 0 0] [0]]", 7: "[[7] [7 0 0] [1]]", 10: "[[7] [7 0 0] [1]]", 11: "[[1] [7 0 0] [1]]"} {
		end := call{source: s, args: []int{0, 7}}.run(t, fuel)
		if want != "" && (tell(end.State) != want || end.Trap != api.TrapFuel || end.Fuel != 0) {
			t.Errorf("fuel %d: %+v, want %s", fuel, end, want)
		}
	}
}

func TestStatesGoOn(t *testing.T) {
	m := parsed(t, "var n:int=5;var a:[2]int;fn f(){n=n+1;a[1]=a[1]+n;}")
	state := started(t, m)
	for i := range 4 {
		end, e := eval.Run(m, state, 0, nil, 100, nil)
		if e != api.OK || end.Trap != 0 {
			t.Fatal(i, end, e)
		}
		state = end.State
	}
	if tell(state) != "[[9] [0 30]]" {
		t.Error(state)
	}
}

func TestTheValue(t *testing.T) {
	call{source: "fn f():int{return -9;}"}.wantSpent(t, 0, -9, 3)
	call{source: "fn f():bool{return true;}"}.wantSpent(t, 0, 1, 2)
	call{source: "fn f(e:ent):ent{return e;}", args: []int{-70}}.wantSpent(t, 0, -70, 2)
	call{source: "fn f(e:fix):fix{return e;}", args: []int{api.MinInt}}.wantSpent(t, 0, api.MinInt, 2)
	// Without a result, what a called function answered is not it.
	call{source: "fn f(){g();}fn g():int{return 9;}"}.wantSpent(t, 0, 0, 5)
	call{source: "fn f(){g();return;}fn g():int{return 9;}"}.wantSpent(t, 0, 0, 5)
	// After a trap there is none.
	call{source: "fn f():int{return 9/0;}"}.wantSpent(t, api.TrapDiv, 0, 3)
	if end := (call{source: "fn f():int{return 9;}"}).run(t, 1); end.Trap != api.TrapFuel || end.Value != 0 {
		t.Error(end)
	}
}
