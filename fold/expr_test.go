package fold_test

import (
	"strings"
	"testing"

	"tiltyard/api"
)

const (
	maxInt = "9223372036854775807"
	maxFix = "2147483647.99999999976716935634613037109375"
	minFix = "0.00000000023283064365386962890625"
)

// world is what the expressions and the statements of tests can use.
const world = "var gi:int;var gx:fix;var gb:bool;var ge:ent;var ai:[3]int;var af:[3]fix;var ab:[3]bool;var ae:[3]ent;" +
	"fn hi(x:int):int{return x;}fn hf(x:fix):fix{return x;}fn hb(x:bool):bool{return x;}fn he(x:ent):ent{return x;}" +
	"fn h(x:int,y:fix,z:bool,w:ent){}fn g(x:int){}"

func inWorld(kind, expr string) string {
	return world + "fn f(i:int,x:fix,b:bool,c:bool,e:ent):" + kind + "{return " + expr + ";}"
}

// wantExprs asks what expressions of a type become; those that map to nothing
// stay as they are.
func wantExprs(t *testing.T, kind string, all map[string]string) {
	t.Helper()
	for source, want := range all {
		if want == "" {
			wantAsChecked(t, inWorld(kind, source))
			continue
		}
		wantFolded(t, inWorld(kind, source), inWorld(kind, want))
	}
}

func TestInts(t *testing.T) {
	wantExprs(t, "int", map[string]string{
		"1+2": "3", "7-2": "5", "2-7": "", "2-2": "0", "3*4": "12", "7/2": "3", "7%4": "3", "6%3": "0", "0/5": "0", "0%5": "0", "1/2": "0",
		"1/0": "", "0/0": "", "7%0": "", "0%0": "", "1/(2-2)": "1/0", "1%(1-1)": "1%0", "1/0+1": "", "(1+1)/0": "2/0",
		"-0": "0", "-1": "", "-" + maxInt: "", "--1": "", "--0": "0", "-(1-1)": "0", "-(1+1)": "-2", "5+-0": "5", "5+-1": "", "-5+7": "", "-(2-3)": "",
		"0-" + maxInt: "", maxInt + "-0": maxInt, maxInt + "-" + maxInt: "0",
		// They wrap around, as in a run.
		maxInt + "+1": "", maxInt + "+" + maxInt: "", maxInt + "*2": "", "4611686018427387904*2": "",
		maxInt + "*" + maxInt: "1", maxInt + "*3": "9223372036854775805", "4611686018427387904*4": "0", "6148914691236517206*3": "2",
		// The result may be from 0 on where a part of it is not.
		"(1-2)*(3-5)": "", "1-2+3": "", "3+1-2": "2", "(" + maxInt + "+1)*2": "",
	})
}

func TestFixes(t *testing.T) {
	wantExprs(t, "fix", map[string]string{
		"0.5+0.25": "0.75", "0.5-0.25": "0.25", "0.25-0.5": "", "0.5-0.5": "0.0", "0.5*0.5": "0.25", "1.5*3.0": "4.5", "1.0/4.0": "0.25", "7.0/2.0": "3.5",
		"1.0/3.0": "0.33333333325572311878204345703125", "2.0/3.0": "0.6666666665114462375640869140625", "0.0/2.0": "0.0",
		"1.0/0.0": "", "0.0/0.0": "", "1.0/(1.0-1.0)": "1.0/0.0", "-0.0": "0.0", "-0.5": "", "--0.5": "", "--0.0": "0.0", "-(0.5-0.5)": "0.0",
		minFix + "*0.5": "0.0", minFix + "*1.0": minFix, minFix + "/2.0": "0.0", "0.00001*0.00001": "0.0",
		// They stop at the greatest one, as in a run.
		"2147483647.0+2147483647.0": maxFix, "2147483647.0*2.0": maxFix, "2147483647.0/0.5": maxFix, maxFix + "+" + minFix: maxFix, maxFix + "-" + maxFix: "0.0",
		"0.0-2147483647.0-2147483647.0": "",
	})
}

func TestConversions(t *testing.T) {
	wantExprs(t, "fix", map[string]string{
		"tofix(3)": "3.0", "tofix(0)": "0.0", "tofix(2147483647)": "2147483647.0", "tofix(2147483648)": maxFix, "tofix(" + maxInt + ")": maxFix,
		"tofix(1+2)": "3.0", "tofix(-0)": "0.0", "tofix(-1)": "", "tofix(1-2)": "", "tofix(i)": "", "tofix(toint(2.75))": "2.0", "tofix(toint(x))": "", "tofix(i+(1+1))": "tofix(i+2)",
		"tofix(3)*0.5": "1.5", "-tofix(3)": "-3.0", "hf(tofix(1))": "hf(1.0)", "getx(null)": "",
	})
	wantExprs(t, "int", map[string]string{
		"toint(3.0)": "3", "toint(3.99)": "3", "toint(0.99)": "0", "toint(0.0)": "0", "toint(" + maxFix + ")": "2147483647", "toint(" + minFix + ")": "0",
		"toint(0.5+0.75)": "1", "toint(-0.0)": "0", "toint(-1.5)": "", "toint(0.5-1.0)": "", "toint(x)": "", "toint(tofix(7))": "7", "toint(tofix(" + maxInt + "))": "2147483647",
		"toint(2.5)+1": "3", "hi(3)": "", "hi(toint(3.0))": "hi(3)", "tag(null)": "", "random(1+1)": "random(2)",
	})
}

func TestComparisons(t *testing.T) {
	wantExprs(t, "bool", map[string]string{
		"1==1": "true", "1==2": "false", "1!=1": "false", "1!=2": "true", "1<2": "true", "1<1": "false", "2<1": "false", "1<=2": "true", "1<=1": "true", "2<=1": "false",
		"1>2": "false", "1>1": "false", "2>1": "true", "1>=2": "false", "1>=1": "true", "2>=1": "true",
		"0.5==0.5": "true", "0.5==0.25": "false", "0.5!=0.5": "false", "0.5!=0.25": "true", "0.5<0.75": "true", "0.5<0.5": "false", "0.5<0.25": "false",
		"0.5<=0.75": "true", "0.5<=0.5": "true", "0.5<=0.25": "false", "0.5>0.75": "false", "0.5>0.5": "false", "0.5>0.25": "true", "0.5>=0.75": "false", "0.5>=0.5": "true", "0.5>=0.25": "true",
		"true==true": "true", "true==false": "false", "false==false": "true", "true!=true": "false", "true!=false": "true", "false!=false": "false",
		"null==null": "true", "null!=null": "false",
		maxInt + ">0": "true", "0<" + maxInt: "true", "0==-0": "true", "0>-1": "", "-1<0": "", "-1==-1": "", "-0.5<0.0": "",
		"1/0==1": "", "1==1%0": "", "1.0/0.0<1.0": "", "1+1<3": "true", "(1<2)==(2<1)": "false", "(1<2)==b": "true==b", "!(1<2)==false": "true", "i<2": "", "2<i": "", "i==i": "", "x>=0.5": "", "b==true": "", "true!=b": "", "e==null": "", "null!=e": "",
		"i+1<1+1": "i+1<2", "i<2-3": "", "alive(null)": "",
	})
}

func TestNots(t *testing.T) {
	wantExprs(t, "bool", map[string]string{
		"!true": "false", "!false": "true", "!!true": "true", "!!!true": "false", "!b": "", "!!b": "b", "!!!b": "!b", "!!!!b": "b", "!!!!!b": "!b",
		"!(1<2)": "false", "!(i<2)": "", "!!(i<2)": "i<2", "!(b&&c)": "", "!!(b&&c)": "b&&c", "!!(b||c)&&c": "(b||c)&&c", "!!hb(!!b)": "hb(b)", "!!ab[1+1]": "ab[2]",
		"!!(1/0==1)": "1/0==1", "!!alive(e)": "alive(e)", "!(true&&!b)": "b", "!(!b||false)": "b", "!(false||!!b)": "!b", "!!(1<2)": "true", "!(null==null)": "false",
		"!b&&!!c": "!b&&c", "!(!b&&c)": "", "!(-i==0)": "",
	})
	wantExprs(t, "int", map[string]string{"--i": "", "---i": "", "-i": "", "-hi(1)": "", "-(-(-i))": "---i"})
	wantExprs(t, "fix", map[string]string{"--x": "", "-x": ""})
}

func TestAnds(t *testing.T) {
	wantExprs(t, "bool", map[string]string{
		"true&&b": "b", "b&&true": "b", "false&&b": "false", "b&&false": "", "b&&c": "", "b&&b": "",
		"true&&true": "true", "true&&false": "false", "false&&true": "false", "false&&false": "false",
		"true&&b&&true": "b", "b&&true&&c": "b&&c", "b&&false&&c": "", "false&&b&&c": "false", "b&&(true&&c)": "b&&c", "b&&(false&&c)": "b&&false", "b&&(c&&false)": "",
		"1<2&&b": "b", "b&&1<2": "b", "2<1&&b": "false", "b&&2<1": "b&&false", "!true&&b": "false", "!!b&&!false": "b",
		"false&&1/0==1": "false", "1/0==1&&false": "", "1/0==1&&true": "1/0==1", "true&&1/0==1": "1/0==1", "hb(b)&&true": "hb(b)", "hb(b)&&false": "", "false&&hb(b)": "false",
	})
}

func TestOrs(t *testing.T) {
	wantExprs(t, "bool", map[string]string{
		"false||b": "b", "b||false": "b", "true||b": "true", "b||true": "", "b||c": "", "b||b": "",
		"true||true": "true", "true||false": "true", "false||true": "true", "false||false": "false",
		"false||b||false": "b", "b||false||c": "b||c", "b||true||c": "", "true||b||c": "true", "b||(false||c)": "b||c", "b||(true||c)": "b||true",
		"2<1||b": "b", "b||2<1": "b", "1<2||b": "true", "b||1<2": "b||true", "!false||b": "true", "!!b||!true": "b",
		"true||1/0==1": "true", "1/0==1||true": "", "1/0==1||false": "1/0==1", "false||1/0==1": "1/0==1", "hb(b)||true": "", "true||hb(b)": "true",
		"(b&&true)||(false&&b)": "b", "b&&false||b||true": "", "true&&(false||b)": "b", "false||(true&&false)": "false", "b&&(false||c)||false": "b&&c",
		"(b||c)&&true": "b||c", "c&&(false||(b||c))": "c&&(b||c)",
	})
}

func TestParts(t *testing.T) {
	wantExprs(t, "int", map[string]string{
		"i": "", "1": "", "1+2+i": "3+i", "i+1+2": "", "i+(1+2)": "i+3", "1+i+2": "", "i*0": "", "0*i": "", "i+0": "", "i/1": "", "i-i": "", "i%1": "",
		"ai[1+1]": "ai[2]", "ai[9+9]": "ai[18]", "ai[i+(2-1)]": "ai[i+1]", "ai[0]": "", "ai[1-2]": "", "hi(1+1)": "hi(2)", "hi(hi(1+1)*(2*3))": "hi(hi(2)*6)", "-(i+(1+1))": "-(i+2)",
		"(1+2)*3-10": "9-10", "(i+2*3)*(4-1)": "(i+6)*3", "tag(nth(1+1))": "tag(nth(2))", "random(-0)": "random(0)", "toint(x+(0.5+0.5))": "toint(x+1.0)",
	})
	wantExprs(t, "ent", map[string]string{
		"null": "", "e": "", "he(null)": "", "ae[2-1]": "ae[1]", "spawn(0.5+0.5,x,1+1)": "spawn(1.0,x,2)", "spawn(x,0.5*0.5,i)": "spawn(x,0.25,i)", "nth(7%4)": "nth(3)",
	})
	wantExprs(t, "fix", map[string]string{"af[1*2]": "af[2]", "getx(nth(1+1))": "getx(nth(2))", "x*(1.0+1.0)": "x*2.0", "x+1.0+1.0": ""})
}

// Where an expression comes from: a value is where what it is the value of was;
// what is left of an expression stays where it is.

// wantExprAt asks where the expression of a return is: at the @ of its source.
func wantExprAt(t *testing.T, kind, marked, want string) {
	t.Helper()
	head := inWorld(kind, "#")
	at := strings.Index(head, "#") + strings.Index(marked, "@")
	m := folded(t, inWorld(kind, strings.Replace(marked, "@", "", 1)))
	e := m.Funcs[len(m.Funcs)-1].Body[0].Exprs[0]
	if e.At != at {
		t.Errorf("Fold of %q: %+v, want it at %d", marked, e, at)
	}
	wantFolded(t, inWorld(kind, strings.Replace(marked, "@", "", 1)), inWorld(kind, want))
}

func TestOffsetsOfValues(t *testing.T) {
	wantExprAt(t, "int", "1 @+2", "3")
	wantExprAt(t, "int", "1 @+2*3", "7")
	wantExprAt(t, "int", "(1+2) @*(3-1)", "6")
	wantExprAt(t, "int", "@-0", "0")
	wantExprAt(t, "int", "@--0", "0")
	wantExprAt(t, "int", "@toint( 1.5)", "1")
	wantExprAt(t, "fix", "@tofix(1+1)", "2.0")
	wantExprAt(t, "fix", "0.5 @/ 2.0", "0.25")
	wantExprAt(t, "bool", "@!true", "false")
	wantExprAt(t, "bool", "1+1 @<3", "true")
	wantExprAt(t, "bool", "null@==null", "true")
	wantExprAt(t, "bool", "true@!=false", "true")
	wantExprAt(t, "bool", "@!!(1<2)", "true")
	wantExprAt(t, "int", "@7", "7")
	wantExprAt(t, "int", "2 @-7", "2-7")
}

func TestOffsetsOfParts(t *testing.T) {
	wantExprAt(t, "bool", "!!@b", "b")
	// The inner ones go first.
	wantExprAt(t, "bool", "@!!!b", "!b")
	wantExprAt(t, "bool", "!!(b @&&c)", "b&&c")
	wantExprAt(t, "bool", "!!@hb(b)", "hb(b)")
	wantExprAt(t, "bool", "!(true&&!@b)", "b")
	wantExprAt(t, "bool", "true&&@b", "b")
	wantExprAt(t, "bool", "@b&&true", "b")
	wantExprAt(t, "bool", "false||@b", "b")
	wantExprAt(t, "bool", "@b||false", "b")
	wantExprAt(t, "bool", "@b&&true&&true", "b")
	wantExprAt(t, "bool", "true&&(i @<2)", "i<2")
	wantExprAt(t, "bool", "true&&(1 @<2)", "true")
	wantExprAt(t, "bool", "b @&&false", "b&&false")
	// The false of a false && E, and the true of a true || E, are parts of it.
	wantExprAt(t, "bool", "@false&&b", "false")
	wantExprAt(t, "bool", "@true||b", "true")
	wantExprAt(t, "bool", "2@<1&&b", "false")
	wantExprAt(t, "bool", "1@<2||b", "true")
	// The first rule that applies.
	wantExprAt(t, "bool", "true&&@true", "true")
	wantExprAt(t, "bool", "true&&@false", "false")
	wantExprAt(t, "bool", "@false&&true", "false")
	wantExprAt(t, "bool", "@false&&false", "false")
	wantExprAt(t, "bool", "false||@false", "false")
	wantExprAt(t, "bool", "false||@true", "true")
	wantExprAt(t, "bool", "@true||false", "true")
	wantExprAt(t, "bool", "@true||true", "true")
}

func TestAnyOffsets(t *testing.T) {
	for _, at := range []int{api.MinInt, -1, 0, api.MaxInt} {
		m := parsed(t, "fn f():int{return 1+2;}")
		m.Funcs[0].Body[0].Exprs[0].At = at
		got := foldedTree(t, m)
		if e := got.Funcs[0].Body[0].Exprs[0]; e.At != at || e.Num != 3 || len(e.Args) != 0 || e.Op != 0 {
			t.Errorf("Fold of 1+2 at %d: %+v", at, e)
		}
	}
}
