package eval_test

import (
	"fmt"
	"math/big"
	"slices"
	"strconv"
	"strings"
	"testing"

	"tiltyard/api"
	"tiltyard/eval"
	"tiltyard/fix"
	"tiltyard/parse"
)

// What the expressions of some tests can use. The functions r, s and t tell in
// which order they are called: each asks the engine for a number by its own one.
const (
	worldVars  = "var gi:int=-3;var gf:fix=0.5;var gb:bool=true;var ge:ent;var ai:[3]int;var af:[2]fix;var ab:[2]bool;var ae:[1]ent;"
	worldFuncs = "fn h(){}fn h1():int{return 1;}fn hb(x:bool):bool{return x;}fn hf(x:int,y:fix):fix{return y;}" +
		"fn r(x:int):int{return random(1);}fn s(x:bool):bool{let y:int=random(2);return x;}fn t(x:fix):fix{let y:int=random(3);return x;}"
	half = api.One / 2
)

func worldState() [][]int {
	return [][]int{{-3}, {half}, {1}, {99}, {10, 20, 30}, {api.One, -api.One}, {0, 1}, {55}}
}

func worldCall(kind, expr string) call {
	return call{
		source: worldVars + "fn f(pi:int,pf:fix,pb:bool,pe:ent):" + kind + "{return " + expr + ";}" + worldFuncs,
		state:  worldState(),
		args:   []int{7, 3 * half, 1, 70},
	}
}

// wantValue asks for the value of an expression, and for what is spent on it alone.
func wantValue(t *testing.T, kind, expr string, value, spent int) api.End {
	t.Helper()
	return worldCall(kind, expr).wantSpent(t, 0, value, spent+1)
}

func wantTrap(t *testing.T, kind, expr string, trap, spent int) api.End {
	t.Helper()
	return worldCall(kind, expr).wantSpent(t, trap, 0, spent)
}

func TestLiteralsAndNames(t *testing.T) {
	wantValue(t, "int", "0", 0, 1)
	wantValue(t, "int", "9223372036854775807", api.MaxInt, 1)
	wantValue(t, "fix", "1.5", 3*half, 1)
	wantValue(t, "fix", "0.0", 0, 1)
	wantValue(t, "bool", "true", 1, 1)
	wantValue(t, "bool", "false", 0, 1)
	wantValue(t, "ent", "null", 0, 1)
	wantValue(t, "int", "pi", 7, 1)
	wantValue(t, "fix", "pf", 3*half, 1)
	wantValue(t, "bool", "pb", 1, 1)
	wantValue(t, "ent", "pe", 70, 1)
	wantValue(t, "int", "gi", -3, 1)
	wantValue(t, "fix", "gf", half, 1)
	wantValue(t, "bool", "gb", 1, 1)
	wantValue(t, "ent", "ge", 99, 1)
	wantValue(t, "int", "((pi))", 7, 1)
}

func TestIndexes(t *testing.T) {
	wantValue(t, "int", "ai[0]", 10, 2)
	wantValue(t, "int", "ai[2]", 30, 2)
	wantValue(t, "fix", "af[1]", -api.One, 2)
	wantValue(t, "bool", "ab[1]", 1, 2)
	wantValue(t, "ent", "ae[0]", 55, 2)
	wantValue(t, "int", "ai[pi-5]", 30, 4)
	wantValue(t, "int", "ai[ai[0]-9]", 20, 5)
	for _, index := range []string{"3", "256", "9223372036854775807", "4294967296"} {
		wantTrap(t, "int", "ai["+index+"]", api.TrapIndex, 2)
		wantTrap(t, "int", "ai[-"+index+"]", api.TrapIndex, 3)
	}
	wantTrap(t, "int", "ai[-1]", api.TrapIndex, 3)
	wantTrap(t, "fix", "af[2]", api.TrapIndex, 2)
	wantTrap(t, "ent", "ae[1]", api.TrapIndex, 2)
	wantTrap(t, "int", "ai[ai[0]]", api.TrapIndex, 3)
	wantTrap(t, "int", "1+ai[3]*2", api.TrapIndex, 3)
	wantTrap(t, "int", "ai[1/0]", api.TrapDiv, 3)
}

func TestUnary(t *testing.T) {
	wantValue(t, "int", "-5", -5, 2)
	wantValue(t, "int", "-gi", 3, 2)
	wantValue(t, "int", "--gi", -3, 3)
	wantValue(t, "int", "-0", 0, 2)
	wantValue(t, "fix", "-1.5", -3*half, 2)
	wantValue(t, "fix", "--gf", half, 3)
	wantValue(t, "bool", "!true", 0, 2)
	wantValue(t, "bool", "!false", 1, 2)
	wantValue(t, "bool", "!!gb", 1, 3)
	wantValue(t, "int", "-ai[1]", -20, 3)
	// The number without an opposite: of an int it is itself, of a fix the greatest one.
	call{source: "fn f(x:int):int{return -x;}", args: []int{api.MinInt}}.wantSpent(t, 0, api.MinInt, 3)
	call{source: "fn f(x:fix):fix{return -x;}", args: []int{api.MinInt}}.wantSpent(t, 0, api.MaxInt, 3)
	call{source: "fn f(x:int):int{return -x;}", args: []int{api.MaxInt}}.wantSpent(t, 0, -api.MaxInt, 3)
	call{source: "fn f(x:fix):fix{return -x;}", args: []int{api.MaxInt}}.wantSpent(t, 0, -api.MaxInt, 3)
}

func TestOperators(t *testing.T) {
	wantValue(t, "int", "1+2", 3, 3)
	wantValue(t, "int", "1-2-3", -4, 5)
	wantValue(t, "int", "1-(2-3)", 2, 5)
	wantValue(t, "int", "2+3*4", 14, 5)
	wantValue(t, "int", "7/2", 3, 3)
	wantValue(t, "int", "-7/2", -3, 4)
	wantValue(t, "int", "7/-2", -3, 4)
	wantValue(t, "int", "7%4", 3, 3)
	wantValue(t, "int", "-7%4", -3, 4)
	wantValue(t, "int", "7%-4", 3, 4)
	wantValue(t, "int", "-7%-4", -3, 5)
	wantValue(t, "int", "0/5", 0, 3)
	wantValue(t, "fix", "1.5+2.0", 7*half, 3)
	wantValue(t, "fix", "1.5-2.0", -half, 3)
	wantValue(t, "fix", "1.5*1.5", 9*half/2, 3)
	wantValue(t, "fix", "1.0/3.0", 1431655765, 3)
	wantValue(t, "fix", "-1.0/3.0", -1431655765, 4)
	wantValue(t, "fix", "2147483647.5+2147483647.5", api.MaxInt, 3)
	wantValue(t, "fix", "0.00000000023283064365386962890625*0.5", 0, 3)
	wantTrap(t, "int", "1/0", api.TrapDiv, 3)
	wantTrap(t, "int", "1%0", api.TrapDiv, 3)
	wantTrap(t, "fix", "1.0/0.0", api.TrapDiv, 3)
	wantTrap(t, "fix", "0.0/0.0", api.TrapDiv, 3)
	wantTrap(t, "int", "0/0", api.TrapDiv, 3)
	wantTrap(t, "int", "0%0", api.TrapDiv, 3)
	wantTrap(t, "int", "2+(1+1)/(3-3)*ai[9]", api.TrapDiv, 8)
	// The operands come first, whatever they are.
	wantTrap(t, "int", "ai[9]/0", api.TrapIndex, 2)
	wantTrap(t, "int", "1/ai[9]", api.TrapIndex, 3)
	// A product or a difference of 0 is none.
	wantValue(t, "int", "5*0", 0, 3)
	wantValue(t, "fix", "5.0*0.0", 0, 3)
	wantValue(t, "fix", "5.0-0.0", 5*api.One, 3)
}

func TestComparisons(t *testing.T) {
	for _, kind := range []string{"int", "fix"} {
		for _, pair := range [][2]int{{1, 2}, {2, 2}, {2, 1}, {-1, 0}, {api.MinInt, api.MaxInt}, {api.MaxInt, api.MinInt}, {api.MinInt, api.MinInt}, {-2, -1}, {1 << 32, 1}, {0, 1 << 62}} {
			a, b := pair[0], pair[1]
			for op, holds := range map[string]bool{"==": a == b, "!=": a != b, "<": a < b, "<=": a <= b, ">": a > b, ">=": a >= b} {
				s := "fn f(a:" + kind + ",b:" + kind + "):bool{return a" + op + "b;}"
				call{source: s, args: []int{a, b}}.wantSpent(t, 0, map[bool]int{true: 1, false: 0}[holds], 4)
			}
		}
	}
	for _, kind := range []string{"bool", "ent"} {
		for _, pair := range [][2]int{{0, 0}, {0, 1}, {1, 0}, {1, 1}} {
			s := "fn f(a:" + kind + ",b:" + kind + "):bool{return a@b;}"
			call{source: strings.Replace(s, "@", "==", 1), args: pair[:]}.wantSpent(t, 0, map[bool]int{true: 1, false: 0}[pair[0] == pair[1]], 4)
			call{source: strings.Replace(s, "@", "!=", 1), args: pair[:]}.wantSpent(t, 0, map[bool]int{true: 1, false: 0}[pair[0] != pair[1]], 4)
		}
	}
	// Ents that are no entities are numbers, too.
	call{source: "fn f(a:ent,b:ent):bool{return a==b;}", args: []int{-5, -5}}.wantSpent(t, 0, 1, 4)
	call{source: "fn f(a:ent,b:ent):bool{return a==b;}", args: []int{api.MinInt, 0}}.wantSpent(t, 0, 0, 4)
	wantValue(t, "bool", "null==ge", 0, 3)
	wantValue(t, "bool", "null==null", 1, 3)
}

// numbers are those at which arithmetic is special.
func numbers() []int {
	l := []int{}
	for _, n := range []int{0, 1, 2, 3, 7, 10, 1 << 31, 1<<31 - 1, half, api.One, 3 * half, 3037000500, 1 << 62, 1<<62 + 12345, api.MaxInt, api.MaxInt - 1, 123456789012345} {
		l = append(l, n, -n)
	}
	return append(l, api.MinInt)
}

// wrapped is a number of any size in 64 bits.
func wrapped(n *big.Int) int {
	low := new(big.Int).And(n, new(big.Int).SetUint64(1<<64-1))
	return int(low.Uint64())
}

// intResult is that of an operator, but for a division by 0.
func intResult(op int, a, b int) int {
	x, y, z := big.NewInt(int64(a)), big.NewInt(int64(b)), new(big.Int)
	switch op {
	case api.OpAdd:
		z.Add(x, y)
	case api.OpSub:
		z.Sub(x, y)
	case api.OpMul:
		z.Mul(x, y)
	case api.OpDiv:
		z.Quo(x, y)
	case api.OpMod:
		z.Rem(x, y)
	}
	return wrapped(z)
}

func fixResult(op int, a, b int) int {
	switch op {
	case api.OpAdd:
		return fix.Add(a, b)
	case api.OpSub:
		return fix.Sub(a, b)
	case api.OpMul:
		return fix.Mul(a, b)
	}
	n, _ := fix.Div(a, b)
	return n
}

func TestArithmetic(t *testing.T) {
	signs := map[int]string{api.OpAdd: "+", api.OpSub: "-", api.OpMul: "*", api.OpDiv: "/", api.OpMod: "%"}
	for op, sign := range signs {
		for _, kind := range []string{"int", "fix"} {
			m, f := parse.Parse("fn f(a:" + kind + ",b:" + kind + "):" + kind + "{return a" + sign + "b;}")
			if f.Code != api.OK {
				t.Fatal(f)
			}
			if op == api.OpMod && kind == "fix" {
				continue
			}
			for _, a := range numbers() {
				for _, b := range numbers() {
					want := api.End{Fuel: 6}
					switch {
					case b == 0 && op >= api.OpDiv:
						want = api.End{Fuel: 7, Trap: api.TrapDiv}
					case kind == "int":
						want.Value = intResult(op, a, b)
					default:
						want.Value = fixResult(op, a, b)
					}
					if got, e := eval.Run(m, nil, 0, []int{a, b}, 10, nil); e != api.OK || tell(got) != tell(want) {
						t.Errorf("%d %s %d of %s: %v, %v, want %v", a, sign, b, kind, got, e, want)
					}
				}
			}
		}
	}
	// The ends of ints, in numbers.
	for s, want := range map[string]int{
		"9223372036854775807+1": api.MinInt, "-9223372036854775807-2": api.MaxInt, "9223372036854775807*2": -2,
		"(-9223372036854775807-1)/-1": api.MinInt, "(-9223372036854775807-1)%-1": 0, "(-9223372036854775807-1)*-1": api.MinInt,
	} {
		if end := worldCall("int", s).run(t, 100); end.Trap != 0 || end.Value != want {
			t.Errorf("%s: %+v, want %d", s, end, want)
		}
	}
}

func TestAnd(t *testing.T) {
	wantValue(t, "bool", "true&&true", 1, 4)
	wantValue(t, "bool", "true&&false", 0, 4)
	wantValue(t, "bool", "false&&true", 0, 3)
	wantValue(t, "bool", "false&&false", 0, 3)
	wantValue(t, "bool", "false&&1/0==1", 0, 3)
	wantTrap(t, "bool", "true&&1/0==1", api.TrapDiv, 5)
	wantTrap(t, "bool", "1/0==1&&false", api.TrapDiv, 3)
	wantValue(t, "bool", "true&&true&&true", 1, 7)
	wantValue(t, "bool", "false&&true&&true", 0, 5)
	wantValue(t, "bool", "true&&(true&&false)", 0, 7)
	wantValue(t, "bool", "!pb&&ai[9]==1", 0, 4)
}

func TestOr(t *testing.T) {
	wantValue(t, "bool", "true||true", 1, 4)
	wantValue(t, "bool", "true||false", 1, 4)
	wantValue(t, "bool", "false||true", 1, 3)
	wantValue(t, "bool", "false||false", 0, 3)
	wantValue(t, "bool", "true||1/0==1", 1, 4)
	wantTrap(t, "bool", "false||1/0==1", api.TrapDiv, 5)
	wantTrap(t, "bool", "1/0==1||true", api.TrapDiv, 3)
	wantValue(t, "bool", "false||false||true", 1, 5)
	wantValue(t, "bool", "true||false||false", 1, 7)
	wantValue(t, "bool", "false&&false||true&&true", 1, 8)
}

// Each reply is 2, and true where a bool is asked for.
func TestOrder(t *testing.T) {
	for s, want := range map[string]string{
		"r(1)+random(9)*random(8)":                     "14 [1] 14 [9] 14 [8]",
		"(random(9)-random(8))*r(1)":                   "14 [9] 14 [8] 14 [1]",
		"random(random(4)+r(1))":                       "14 [4] 14 [1] 14 [4]",
		"ai[random(6)]+ai[random(7)-2]":                "14 [6] 14 [7]",
		"q(random(1),random(2),random(3))":             "14 [1] 14 [2] 14 [3]",
		"-random(1)%random(2)":                         "14 [1] 14 [2]",
		"toint(t(1.0)/t(2.0))":                         "14 [3] 14 [3]",
		"toint(tofix(random(5)))-tag(nth(count()))":    "14 [5] 11 [] 12 [2] 8 [2]",
		"w(s(true)&&s(false),s(false)||s(true))":       "14 [2] 14 [2] 14 [2] 14 [2]",
		"w(s(false)&&s(true),s(true)||s(true))":        "14 [2] 14 [2]",
		"w(s(true)==s(false),random(4)<r(1))":          "14 [2] 14 [2] 14 [4] 14 [1]",
		"toint(getx(spawn(1.0,t(2.0),random(7))))":     "14 [3] 14 [7] 0 [4294967296 8589934592 2] 3 [2]",
		"w(alive(nth(1))&&alive(nth(2)),alive(pe))":    "12 [1] 2 [2] 12 [2] 2 [2] 2 [70]",
		"w(!alive(nth(1))||alive(nth(2)),alive(null))": "12 [1] 2 [2] 12 [2] 2 [2] 2 [0]",
	} {
		c := worldCall("int", s)
		c.source += "fn q(a:int,b:int,c:int):int{return a+b+c;}fn w(a:bool,b:bool):int{return 1;}"
		c.replies = replies(slices.Repeat([]int{2}, 20)...)
		end := c.run(t, 1000)
		if end.Trap != 0 {
			t.Errorf("%s: %+v", s, end)
		}
		wantAsks(t, s, end, want)
	}
}

func TestTheLeftValueIsTakenFirst(t *testing.T) {
	const s = "var g:int=1;var a:[2]int;fn f():int{return @;}fn up():int{g=g+10;a[0]=g;return g;}"
	for expr, want := range map[string]int{
		"g+up()": 12, "up()+g": 22, "g+up()+g": 23, "g-up()*g": 1 - 11*11, "a[0]+up()": 11, "a[up()-11]+a[0]": 22, "up()*100+up()": 1121,
	} {
		if end := (call{source: strings.Replace(s, "@", expr, 1)}).run(t, 1000); end.Value != want || end.Trap != 0 {
			t.Errorf("%s: %+v, want %d", expr, end, want)
		}
	}
}

func TestConversions(t *testing.T) {
	wantValue(t, "fix", "tofix(7)", 7*api.One, 2)
	wantValue(t, "fix", "tofix(-7)", -7*api.One, 3)
	wantValue(t, "fix", "tofix(2147483647)", api.Whole*api.One, 2)
	wantValue(t, "fix", "tofix(2147483648)", api.MaxInt, 2)
	wantValue(t, "fix", "tofix(-9223372036854775807)", api.MinInt, 3)
	wantValue(t, "int", "toint(7.9)", 7, 2)
	wantValue(t, "int", "toint(-7.9)", -7, 3)
	wantValue(t, "int", "toint(-0.9)", 0, 3)
	wantValue(t, "int", "toint(tofix(7)/2.0)", 3, 5)
	wantTrap(t, "int", "toint(1.0/0.0)", api.TrapDiv, 3)
}

// P12.2: the engine

func kindWords() []string { return []string{"", "int", "fix", "bool", "ent"} }

// engineCall calls a function of the engine, with as many arguments as it has
// parameters, and answers its result, if it has one.
func engineCall(f api.Sys) call {
	params, names, args := []string{}, []string{}, []int{}
	for i, kind := range f.Params {
		name := "p" + strconv.Itoa(i)
		params, names, args = append(params, name+":"+kindWords()[kind]), append(names, name), append(args, 1000+i)
	}
	result, body := ":"+kindWords()[f.Result], "return "
	if f.Result == 0 {
		result, body = "", ""
	}
	return call{source: "fn f(" + strings.Join(params, ",") + ")" + result + "{" + body + f.Name + "(" + strings.Join(names, ",") + ");}", args: args}
}

func TestCallsOfTheEngine(t *testing.T) {
	for k, f := range api.Calls() {
		c := engineCall(f)
		spent := len(c.args) + 2
		end := c.wantSpent(t, 0, 0, spent)
		wantAsks(t, c.source, end, fmt.Sprint(k, c.args))
		for _, n := range []int{0, 1, 2, -1, 77, 1 << 32, 256, api.MinInt, api.MaxInt} {
			c.replies = replies(n)
			want := n
			switch {
			case f.Result == 0:
				want = 0
			case f.Result == api.TyBool && n != 0:
				want = 1
			}
			end := c.wantSpent(t, 0, want, spent)
			wantAsks(t, c.source, end, fmt.Sprint(k, c.args))
			// What it would have answered does not matter.
			c.replies[0].Trap = true
			end = c.wantSpent(t, api.TrapCall, 0, spent-1)
			wantAsks(t, c.source, end, fmt.Sprint(k, c.args))
			// Without fuel, it is not called.
			wantAsks(t, c.source, c.run(t, spent-2), "")
		}
	}
}

func TestReplies(t *testing.T) {
	const s = "fn f():int{return random(1)*100+random(2)*10+g();}fn g():int{kill(null);return random(3);}"
	const all = "14 [1] 14 [2] 1 [0] 14 [3]"
	wantEnd := func(l []api.Reply, trap, value int, asks string) {
		t.Helper()
		end := call{source: s, replies: l}.run(t, 100)
		if end.Trap != trap || end.Value != value {
			t.Errorf("%v: %+v, want trap %d, value %d", l, end, trap, value)
		}
		wantAsks(t, s, end, asks)
	}
	wantEnd(replies(5, 6, 7, 8), 0, 568, all)
	wantEnd(replies(5, 6, 7, 8, 9, 10), 0, 568, all)
	wantEnd(replies(5, 6, 7), 0, 560, all)
	wantEnd(replies(5), 0, 500, all)
	wantEnd(nil, 0, 0, all)
	wantEnd([]api.Reply{{Value: 5}, {Trap: true}, {Value: 7}}, api.TrapCall, 0, "14 [1] 14 [2]")
	wantEnd([]api.Reply{{Value: 5}, {}, {Value: 7, Trap: true}}, api.TrapCall, 0, "14 [1] 14 [2] 1 [0]")
	wantEnd([]api.Reply{{Value: 5}, {}, {}, {}, {Trap: true}}, 0, 500, all)
	// The bool of a reply is a value as any other one.
	call{source: "fn f():bool{return alive(null)==true;}", replies: replies(-8)}.wantSpent(t, 0, 1, 5)
	call{source: "var b:bool;fn f():bool{b=alive(null);return !b;}", replies: replies(2)}.wantSpent(t, 0, 0, 6)
}

func TestAsksUpToATrap(t *testing.T) {
	for s, want := range map[string]string{
		"random(1)+1/0+random(2)":          "14 [1]",
		"random(1)+ai[5]+random(2)":        "14 [1]",
		"random(random(1)/0)":              "14 [1]",
		"random(1)/(random(2)+1)+count()":  "14 [1] 14 [2]",
		"hi(random(1),ai[random(7)])":      "14 [1] 14 [7]",
		"hi(random(1)+random(2),1/0)":      "14 [1] 14 [2]",
		"hi(1,2)+ai[random(-1)]*random(2)": "14 [9] 14 [-1]",
	} {
		c := worldCall("int", s)
		c.source += "fn hi(a:int,b:int):int{return random(9);}"
		c.replies = replies(3, -1)
		end := c.run(t, 100)
		if end.Trap != api.TrapDiv && end.Trap != api.TrapIndex {
			t.Errorf("%s: %+v", s, end)
		}
		wantAsks(t, s, end, want)
	}
}

// P12.2: functions of the mod

func TestCalls(t *testing.T) {
	wantValue(t, "int", "h1()", 1, 3)
	wantValue(t, "bool", "hb(false)", 0, 4)
	wantValue(t, "fix", "hf(1,2.5)", 5*half, 5)
	wantValue(t, "fix", "hf(1+1,hf(2,gf))", half, 11)
	wantTrap(t, "fix", "hf(1/0,1.0)", api.TrapDiv, 3)
	wantTrap(t, "fix", "hf(1,1.0/0.0)", api.TrapDiv, 4)
	// Arguments go to the parameters in order.
	call{source: "fn f():int{return g(1,2,3);}fn g(a:int,b:int,c:int):int{return a*100+b*10+c;}"}.wantSpent(t, 0, 123, 15)
	// What a function does to its parameters stays its own.
	call{source: "fn f(x:int):int{g(x);return x;}fn g(x:int){x=x+1;}", args: []int{5}}.wantSpent(t, 0, 5, 9)
	call{source: "fn f(x:int):int{return g(x)*10+x;}fn g(x:int):int{let y:int=x+1;x=y+1;return x;}", args: []int{5}}.wantSpent(t, 0, 75, 17)
	call{source: "fn f(n:int):int{let k:int=n*2;if n>1{let d:int=f(n-1);}return k;}", args: []int{4}}.wantSpent(t, 0, 8, 55)
}

func TestDepth(t *testing.T) {
	// n calls within the first one.
	const s = "fn f(n:int):int{if n<1{return 0;}return 1+f(n-1);}"
	for n := range 70 {
		if n < api.MaxDepth {
			call{source: s, args: []int{n}}.wantSpent(t, 0, n, 11*n+6)
		} else {
			call{source: s, args: []int{n}}.wantSpent(t, api.TrapDepth, 0, 9*api.MaxDepth)
		}
	}
	call{source: "fn f(){f();}"}.wantSpent(t, api.TrapDepth, 0, api.MaxDepth)
	call{source: "fn f(){g();}fn g(){f();}"}.wantSpent(t, api.TrapDepth, 0, api.MaxDepth)
	end := call{source: "fn f(x:int){f(random(x));}", args: []int{3}, replies: replies(4, 5)}.wantSpent(t, api.TrapDepth, 0, 3*api.MaxDepth)
	if len(end.Asks) != api.MaxDepth || end.Asks[0].Args[0] != 3 || end.Asks[1].Args[0] != 4 || end.Asks[2].Args[0] != 5 || end.Asks[3].Args[0] != 0 {
		t.Error(end.Asks)
	}
	// What is no function of the mod can be called at every depth.
	call{source: "fn f(n:int):int{if n<1{return toint(tofix(count()+5));}return f(n-1);}", args: []int{api.MaxDepth - 1}, replies: replies(2)}.
		wantSpent(t, 0, 7, 9*(api.MaxDepth-1)+10)
}

func TestEndedFunctionsAreNotActive(t *testing.T) {
	const rest = "fn end(){}fn back(){return;}fn value():int{return 1;}fn inside(){while true{if true{return;}}}fn deep(n:int):int{if n<2{return 1;}return deep(n-1);}"
	for _, s := range []string{"end()", "back()", "value()", "inside()", "deep(63)"} {
		end := call{source: "fn f():int{let i:int=0;while i<100{" + s + ";i=i+1;}return i;}" + rest}.run(t, api.MaxFuel)
		if end.Trap != 0 || end.Value != 100 {
			t.Errorf("%s: %+v", s, end)
		}
	}
	end := call{source: "fn f():int{let i:int=0;while i<100{deep(64);i=i+1;}return i;}" + rest}.run(t, api.MaxFuel)
	if end.Trap != api.TrapDepth {
		t.Error(end)
	}
}

func TestTheDeepestRun(t *testing.T) {
	// As many operators within each other as a source has room for, in as many
	// functions as can be active.
	const count = 4060
	s := "fn f(n:int):int{if n==0{return @;}return f(n-1)" + strings.Repeat("+1", count) + ";}"
	last := api.MaxDepth - 1
	call{source: strings.Replace(s, "@", "0", 1), args: []int{last}}.wantSpent(t, 0, last*count, last*(9+2*count)+6)
	call{source: strings.Replace(s, "@", "1/0", 1), args: []int{last}}.wantSpent(t, api.TrapDiv, 0, last*8+7)
	call{source: strings.Replace(s, "@", "0", 1), args: []int{last + 1}}.wantSpent(t, api.TrapDepth, 0, (last+1)*8)
}
