package verify_test

import (
	"math/rand"
	"strconv"
	"strings"
	"testing"

	"tiltyard/api"
	"tiltyard/gen"
	"tiltyard/parse"
	"tiltyard/verify"
)

func imageOf(t *testing.T, source string) api.Image {
	t.Helper()
	m, f := parse.Parse(source)
	if f.Code != api.OK {
		t.Fatalf("Parse of %q: %v", source, f)
	}
	x, e := gen.Gen(m)
	if e != api.OK {
		t.Fatalf("Gen of %q: %v", source, e)
	}
	return x
}

// P16.5

func TestImagesOfSources(t *testing.T) {
	for _, s := range []string{
		"", "var a:int;", "fn f(){}", "fn f(){return;}", "fn f(){return;return;}", "fn f():bool{return true;}", "fn f(){while true{}}",
		"fn f(){while false{return;}}", "fn f():ent{while true{return null;}return null;}",
		"fn f(x:int):int{if x==1{return 1;}else if x==2{return 2;}else{return 3;}}",
		"fn f():int{return g();}fn g():int{return f();}", "fn f(){f();f();g();}fn g():fix{f();return 1.5;}",
		"var a:[5]bool;var b:[256]fix;fn f(i:int){a[i]=a[i+1]&&!a[0]||b[i]<b[i+1]*2.0;b[toint(b[i])]=-b[2];}",
		"fn start(){}fn join(c:int){}fn leave(c:int){}fn input(c:int,k:int){}fn tick(){}fn touch(a:ent,b:ent){score(owner(a),1);}",
		"fn input(c:int,k:int){let i:int=0;while i<count(){if owner(nth(i))==c{push(nth(i),tofix(k),0.0);}i=i+1;}}",
		"fn f(){spawn(0.0,1.0,2);kill(null);alive(null);getx(null);gety(null);place(null,0.0,0.0);push(null,1.0,1.0);size(null,0.5);tag(null);mark(null,1);owner(null);count();nth(0);now();random(6);score(1,1);tofix(1);toint(1.0);}",
		"fn f(a:bool,b:bool):bool{return a&&b||!(a||b)&&(b==a)!=a;}",
	} {
		wantFault(t, imageOf(t, s), ok())
	}
}

// deepest is a source with as many values on a stack as there can be in one: the
// parts that leave values there, in as many levels of calls as there may be.
func deepest(levels int) string {
	calls := strings.Repeat("f(true,true,true,true,true,true,true,1==1+1*", levels)
	return "var l:[1]int;fn f(a:bool,b:bool,c:bool,d:bool,e:bool,g:bool,h:bool,i:bool):int{return 0;}" +
		"fn last(){l[0]=1+1*" + calls + "1" + strings.Repeat(")", levels) + ";}"
}

func TestDeepestStackOfASource(t *testing.T) {
	x := imageOf(t, deepest(api.MaxNest-1))
	wantFault(t, x, ok())
	// An index and two operands; then seven arguments and three operands a level,
	// and the innermost operand.
	wantDepth(t, x, 1, 3+10*(api.MaxNest-1)+1)
	if _, f := parse.Parse(deepest(api.MaxNest)); f.Code != api.ErrNest {
		t.Errorf("a level more: %v", f)
	}
}

func TestLongSources(t *testing.T) {
	for _, s := range []string{"f();", "x=x+1;", "if x<1{return;}", "x=x;while x<3{x=4;}"} {
		body := strings.Repeat(s, api.MaxBody/strings.Count(s+"{", "{")/2)
		wantFault(t, imageOf(t, "var x:int;fn f(){"+body+"}"), ok())
	}
	fns := ""
	for k := range api.MaxFuncs {
		fns += "fn f" + strconv.Itoa(k) + "(a:int):int{return f" + strconv.Itoa((k+1)%api.MaxFuncs) + "(a)+1;}"
	}
	x := imageOf(t, fns)
	wantFault(t, x, ok())
	wantDepth(t, x, 63, 2)
}

// templates are pieces of sources: a capital letter is for a piece of that kind,
// the first letter of a type, or S for statements.
func templates(kind byte) []string {
	switch kind {
	case 'I':
		return []string{"7", "gi", "p", "(I+I)", "(I-I)", "I*(I)", "(I)/(I)", "(I)%I", "-I", "ai[I]", "toint(F)", "count()", "tag(E)", "random(I)", "fi(F,B,E,I)"}
	case 'F':
		return []string{"0.5", "gf", "q", "(F+F)", "(F-F)", "F*(F)", "(F)/(F)", "-F", "af[I]", "tofix(I)", "getx(E)", "ff(B)"}
	case 'B':
		return []string{"true", "false", "gb", "!B", "(B&&B)", "(B||B)", "(I==I)", "(F!=F)", "(B==B)", "(E!=E)", "(I<I)", "(F<=F)", "(I>=I)", "(F>F)", "ab[I]", "alive(E)", "place(E,F,F)"}
	case 'E':
		return []string{"null", "ge", "ae[I]", "nth(I)", "spawn(F,F,I)"}
	}
	return []string{"", "gi=I;S", "gf=F;S", "gb=B;S", "ge=E;S", "ai[I]=I;S", "af[I]=F;", "ab[I]=B;S", "ae[I]=E;", "p=I;S", "if B{S}S", "if B{S}else{S}S", "if B{S}else if B{S}", "while B{S}S", "return;", "return;S", "kill(E);S", "count();S", "fi(F,B,E,I);S", "ff(B);", "f(I,F);S"}
}

// filled puts pieces into a piece, smaller ones with each level.
func filled(r *rand.Rand, piece string, levels int) string {
	s := strings.Builder{}
	for k := range len(piece) {
		if c := piece[k]; strings.IndexByte("IFBES", c) < 0 {
			s.WriteByte(c)
		} else if l := templates(c); levels > 0 {
			s.WriteString(filled(r, l[r.Intn(len(l))], levels-1))
		} else {
			s.WriteString(l[0])
		}
	}
	return s.String()
}

func TestImagesOfRandomSources(t *testing.T) {
	r := rand.New(rand.NewSource(1))
	most := 0
	for made := 0; made < 300; {
		s := "var gi:int;var gf:fix;var gb:bool;var ge:ent;var ai:[3]int;var af:[3]fix;var ab:[3]bool;var ae:[3]ent;" +
			filled(r, "fn f(p:int,q:fix){S}fn fi(q:fix,b:bool,e:ent,p:int):int{if B{return I;}return I;}fn ff(gg:bool):fix{let p:int=I;let q:fix=F;return F;}", 7)
		m, f := parse.Parse(s)
		x, e := gen.Gen(m)
		if f.Code != api.OK || e != api.OK { // too long, too deep, or p used in its own let
			continue
		}
		made++
		wantFault(t, x, ok())
		n, _ := verify.Depth(x, 0)
		most = max(most, n)
	}
	if most < 5 {
		t.Errorf("no stack had more than %d values", most)
	}
}

// P16.6

func TestUnreachableInstructionsMayChange(t *testing.T) {
	changes := 0
	for seed := range int64(200) {
		r := newMaker(seed)
		x := r.image()
		m, _ := newModel(x)
		for range 5 {
			y := copied(x)
			for k := range y.Fns {
				for at := range y.Fns[k].Code {
					if _, reached := m.stacks[k][at]; !reached && r.chance(70) {
						y.Fns[k].Code[at] = r.anything()
						changes++
					}
				}
			}
			wantFault(t, y, ok())
			for k := range y.Fns {
				wantDepth(t, y, k, m.depth(k))
			}
		}
	}
	if changes < 1000 {
		t.Errorf("only %d instructions were not reached", changes)
	}
}

func TestFunctionsMayBeAppended(t *testing.T) {
	for seed := range int64(200) {
		r := newMaker(seed)
		r.image()
		last := len(r.x.Fns)
		before := []int{}
		for k := range r.x.Fns {
			n, _ := verify.Depth(r.x, k)
			before = append(before, n)
		}
		r.x.Fns = append(r.x.Fns, api.Fn{Name: "more", Params: []int{api.TyFix}, Locals: []int{api.TyFix, api.TyEnt}})
		r.write(last)
		wantFault(t, r.x, ok())
		for k, n := range before {
			wantDepth(t, r.x, k, n)
		}
		// One that is wrong is one, too, though nothing calls it.
		r.x.Fns[last].Code = coded("Pop")
		wantFault(t, r.x, stack(last*65536))
	}
}
