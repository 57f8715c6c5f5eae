package eval_test

import (
	"strconv"
	"testing"

	"tiltyard/api"
)

// body is a run of a function with those statements, in a mod with an int g, an
// array a of three ints, bools yes and no, and a function h that costs 2 units
// as a statement, and k that costs 4.
func body(s string) call {
	return call{source: "var g:int;var a:[3]int;var yes:bool=true;var no:bool;fn f(){" + s + "}fn h(){}fn k():int{return 9;}"}
}

// wantBody asks for what is spent on statements, without the end of the function
// behind them, and for what g and a are then.
func wantBody(t *testing.T, s string, spent, g int, a ...int) {
	t.Helper()
	if len(a) == 0 {
		a = []int{0, 0, 0}
	}
	end := body(s).wantSpent(t, 0, 0, spent+1)
	wantState(t, s, end, [][]int{{g}, a, {1}, {0}})
}

// wantEnded is the same of statements that end the function.
func wantEnded(t *testing.T, s string, spent, g int) {
	t.Helper()
	end := body(s).wantSpent(t, 0, 0, spent)
	wantState(t, s, end, [][]int{{g}, {0, 0, 0}, {1}, {0}})
}

// wantBodyTrap is the same of statements that trap.
func wantBodyTrap(t *testing.T, s string, trap, spent, g int, a ...int) {
	t.Helper()
	if len(a) == 0 {
		a = []int{0, 0, 0}
	}
	end := body(s).wantSpent(t, trap, 0, spent)
	wantState(t, s, end, [][]int{{g}, a, {1}, {0}})
}

func TestLetsAndSets(t *testing.T) {
	wantBody(t, "", 0, 0)
	wantBody(t, "g=5;", 2, 5)
	wantBody(t, "g=5;g=g+1;", 6, 6)
	wantBody(t, "let x:int=5;", 2, 0)
	wantBody(t, "let x:int=5;g=x;", 4, 5)
	wantBody(t, "let x:int=5;x=x+1;g=x;", 8, 6)
	wantBody(t, "let x:int=5;let y:int=x*2;x=y+1;g=x*100+y;", 4+2+4+6, 1110)
	wantBody(t, "let x:fix=1.5;let y:bool=x>1.0;let z:ent=null;if y{g=toint(x*2.0);}", 2+4+2+2+5, 3)
	// Every turn of a loop, and every block, has its own.
	wantBody(t, "while g<3{let x:int=5;x=x+g;g=g+1;}", 3*(4+2+4+4+1)+4, 3)
	wantBody(t, "if yes{let x:int=5;g=x;}if yes{let x:int=6;g=g*10+x;}", 2+2+2+2+2+6, 56)
	// The variable keeps its value, if the expression traps.
	wantBodyTrap(t, "g=5;g=1/0;", api.TrapDiv, 5, 5)
	wantBodyTrap(t, "g=5;g=a[3];", api.TrapIndex, 4, 5)
	wantBodyTrap(t, "g=5;let x:int=1%0;g=6;", api.TrapDiv, 5, 5)
}

func TestSetsOfParametersAndVariables(t *testing.T) {
	const s = "var i:int;var x:fix;var b:bool;var e:ent;fn f(p:int,q:fix,r:bool,s:ent){i=p;x=q;b=r;e=s;p=1;q=1.0;r=false;s=null;}"
	end := call{source: s, args: []int{-7, 9, 1, api.MaxInt}}.wantSpent(t, 0, 0, 17)
	wantState(t, s, end, [][]int{{-7}, {9}, {1}, {api.MaxInt}})
}

func TestPuts(t *testing.T) {
	wantBody(t, "a[0]=5;", 3, 0, 5, 0, 0)
	wantBody(t, "a[2]=5;a[1]=6;", 6, 0, 0, 6, 5)
	wantBody(t, "a[1]=1;a[a[1]+1]=a[1]+7;a[0]=a[2];", 3+5-1+4+1+4, 0, 8, 1, 8)
	for _, index := range []string{"3", "256", "9223372036854775807", "4294967296"} {
		wantBodyTrap(t, "a["+index+"]=5;", api.TrapIndex, 3, 0)
		wantBodyTrap(t, "a[-"+index+"]=5;", api.TrapIndex, 4, 0)
	}
	wantBodyTrap(t, "a[-1]=5;g=1;", api.TrapIndex, 4, 0)
	// The index, the value, and only then whether there is such an element.
	wantBodyTrap(t, "a[3]=1/0;", api.TrapDiv, 4, 0)
	wantBodyTrap(t, "a[1/0]=a[7];", api.TrapDiv, 3, 0)
	end := call{source: "var a:[3]int;fn f(){a[random(1)]=random(2);}", replies: replies(3, 4)}.wantSpent(t, api.TrapIndex, 0, 5)
	wantAsks(t, "put", end, "14 [1] 14 [2]")
	end = call{source: "var a:[3]int;fn f(){a[random(1)]=random(2);}", replies: replies(2, 4)}.wantSpent(t, 0, 0, 6)
	wantAsks(t, "put", end, "14 [1] 14 [2]")
	wantState(t, "put", end, [][]int{{0, 0, 4}})
	// The index is taken ahead of the value.
	const s = "var g:int;var a:[3]int;fn f(){a[g]=up();}fn up():int{g=g+1;return g;}"
	end = call{source: s}.run(t, 100)
	wantState(t, s, end, [][]int{{1}, {1, 0, 0}})
	const kinds = "var x:[2]fix;var b:[2]bool;var e:[2]ent;fn f(p:ent){x[1]=1.5;b[0]=1<2;e[1]=p;}"
	end = call{source: kinds, args: []int{77}}.run(t, 100)
	wantState(t, kinds, end, [][]int{{0, 3 * half}, {1, 0}, {0, 77}})
}

func TestCallsAlone(t *testing.T) {
	wantBody(t, "h();", 2, 0)
	wantBody(t, "k();", 4, 0)
	wantBody(t, "h();k();g=k();", 2+4+4, 9)
	// Of the engine: with a result and without.
	wantBody(t, "count();", 2, 0)
	wantBody(t, "kill(null);", 2, 0)
	wantBody(t, "random(1);", 3, 0)
	wantBody(t, "score(1,2);", 3, 0)
	wantBody(t, "alive(null);", 3, 0)
	wantBody(t, "tofix(1);", 3, 0)
	wantBody(t, "toint(1.0);", 3, 0)
	wantBodyTrap(t, "g=5;random(1/0);", api.TrapDiv, 5, 5)
	wantBodyTrap(t, "g=5;toint(1.0/0.0);", api.TrapDiv, 5, 5)
}

func TestReturns(t *testing.T) {
	wantEnded(t, "return;", 1, 0)
	wantEnded(t, "g=5;return;g=6;", 3, 5)
	wantEnded(t, "if yes{g=5;return;}g=6;", 2+2+1, 5)
	wantEnded(t, "while yes{g=5;return;}g=6;", 2+2+1, 5)
	wantEnded(t, "while yes{if no{}else{while yes{g=g+1;if g>2{return;}}}g=7;}", 2+2+3*(2+4+4)+2*1+1, 3)
	wantEnded(t, "if yes{return;}else{g=6;}", 2+1, 0)
	wantEnded(t, "if no{g=6;}else{return;}g=7;", 2+1, 0)
	call{source: "fn f():int{return 1+2;}"}.wantSpent(t, 0, 3, 4)
	call{source: "fn f():int{while true{return 1;}return 2;}"}.wantSpent(t, 0, 1, 4)
	call{source: "fn f():int{while false{return 1;}return 2;}"}.wantSpent(t, 0, 2, 4)
	call{source: "fn f():int{return 1;return 2;}"}.wantSpent(t, 0, 1, 2)
	call{source: "fn f():int{return 1/0;}"}.wantSpent(t, api.TrapDiv, 0, 3)
	// Only the function itself ends.
	wantBody(t, "i();g=g+1;}fn i(){while yes{if yes{g=5;return;}}g=8;", 1+2+2+2+1+4, 6)
	call{source: "fn f():int{let x:int=g(3);return x+1;}fn g(n:int):int{while n>0{if n==2{return 20;}n=n-1;}return 0;}"}.
		wantSpent(t, 0, 21, 1+1+1+(4+4+4+1)+(4+4+2)+4)
}

func TestEndsOfFunctions(t *testing.T) {
	call{source: "fn f(){}"}.wantSpent(t, 0, 0, 1)
	call{source: "fn f(){g();}fn g(){}"}.wantSpent(t, 0, 0, 3)
	call{source: "fn f(){if false{return;}}"}.wantSpent(t, 0, 0, 3)
	call{source: "fn f(){if true{return;}}"}.wantSpent(t, 0, 0, 3)
	call{source: "fn f(){if true{}}"}.wantSpent(t, 0, 0, 3)
	call{source: "fn f(){while false{return;}}"}.wantSpent(t, 0, 0, 3)
	call{source: "fn f(){g();g();}fn g(){return;}"}.wantSpent(t, 0, 0, 5)
	if end := (call{source: "fn f(){}"}).run(t, 0); end.Trap != api.TrapFuel || end.Fuel != 0 {
		t.Error(end)
	}
}

func TestIfs(t *testing.T) {
	wantBody(t, "if yes{}", 2, 0)
	wantBody(t, "if no{}", 2, 0)
	wantBody(t, "if yes{g=5;}", 4, 5)
	wantBody(t, "if no{g=5;}", 2, 0)
	// Who has an else spends 1 more behind the first block, but nothing behind the other.
	wantBody(t, "if yes{g=5;}else{g=6;}", 5, 5)
	wantBody(t, "if no{g=5;}else{g=6;}", 4, 6)
	wantBody(t, "if yes{}else{g=6;}", 3, 0)
	// An else without statements is none.
	wantBody(t, "if yes{g=5;}else{}", 4, 5)
	wantBody(t, "if no{g=5;}else{}", 2, 0)
	const chain = "if g==0{g=10;}else if g==1{g=11;}else if g==2{g=12;}else{g=13;}"
	wantBody(t, chain, 4+2+1, 10)
	wantBody(t, "g=1;"+chain, 2+4+4+2+1, 11)
	wantBody(t, "g=2;"+chain, 2+4+4+4+2+1, 12)
	wantBody(t, "g=3;"+chain, 2+4+4+4+2, 13)
	wantBody(t, "if yes{if no{g=1;}else{g=2;}g=g+5;}else{g=3;}g=g*2;", 2+2+2+4+1+4, 14)
	wantBodyTrap(t, "if 1/0==1{g=1;}else{g=2;}", api.TrapDiv, 3, 0)
	wantBodyTrap(t, "if yes{g=1;g=1/0;}else{g=2;}g=3;", api.TrapDiv, 2+2+3, 1)
	// The unit of the condition comes ahead of the block.
	if end := body("if yes{g=5;}").run(t, 3); tell(end.State) != "[[0] [0 0 0] [1] [0]]" {
		t.Error(end)
	}
}

func TestWhiles(t *testing.T) {
	wantBody(t, "while no{g=5;}", 2, 0)
	wantBody(t, "while g<1{g=g+1;}", 4+4+1+4, 1)
	wantBody(t, "while g<10{g=g+1;}", 10*(4+4+1)+4, 10)
	wantBody(t, "while g<10{g=g+1;if g==5{}else{a[0]=a[0]+g;}}", 10*(4+4+1+4)+9*6+1+4, 10, 50, 0, 0)
	wantBody(t, "while g<3{let i:int=0;while i<2{i=i+1;a[g]=a[g]+i;}g=g+1;}", 3*(4+2+2*(4+4+6+1)+4+4+1)+4, 3, 3, 3, 3)
	wantBodyTrap(t, "while 2/(2-g)<9{g=g+1;}", api.TrapDiv, 2*(8+4+1)+5, 2)
	wantBodyTrap(t, "while yes{a[g]=1;g=g+1;}", api.TrapIndex, 3*(2+3+4+1)+2+3, 3, 1, 1, 1)
	// A loop without an end spends all there is, and nothing else.
	for fuel := range 40 {
		end := body("while yes{g=g+1;}").run(t, fuel)
		if end.Trap != api.TrapFuel || end.Fuel != 0 || end.State[0][0] != (fuel+1)/7 {
			t.Errorf("fuel %d: %+v", fuel, end)
		}
	}
	for _, s := range []string{"while true{}", "while yes{}", "while yes{h();}", "while !no{while no{}}"} {
		end := body(s).run(t, api.MaxFuel)
		if end.Trap != api.TrapFuel || end.Fuel != 0 || len(end.Asks) != 0 {
			t.Errorf("%s: %+v", s, end)
		}
	}
}

func TestALongRun(t *testing.T) {
	end := body("while yes{count();}").run(t, api.MaxFuel)
	if end.Trap != api.TrapFuel || end.Fuel != 0 || len(end.Asks) != (api.MaxFuel+2)/5 {
		t.Errorf("trap %d, fuel %d, %d asks", end.Trap, end.Fuel, len(end.Asks))
	}
}

func TestManyLocals(t *testing.T) {
	s, last, want := "fn f(p:int,q:int):int{", "p", 5
	for i := range api.MaxLocals - 2 {
		name := "x" + strconv.Itoa(i)
		s += "let " + name + ":int=" + last + "+" + strconv.Itoa(i*i) + ";"
		last, want = name, want+i*i
	}
	s += "return " + last + "*10+q;}"
	call{source: s, args: []int{5, 7}}.wantSpent(t, 0, want*10+7, 4*(api.MaxLocals-2)+6)
}
