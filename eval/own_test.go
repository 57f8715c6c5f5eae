package eval_test

import (
	"slices"
	"testing"

	"tiltyard/api"
	"tiltyard/eval"
)

// P12.5

// roomy is a list with something in its spare capacity.
func roomy[T any](l []T, spare T) []T { return append(slices.Clone(l), spare, spare)[:len(l)] }

// whole is a list with its spare capacity.
func whole[T any](l []T) []T { return l[:cap(l)] }

func roomyState(state [][]int) [][]int {
	state = roomy(state, []int{91, 92})
	for i := range state {
		state[i] = roomy(state[i], 93)
	}
	return state
}

// roomyGiven is the same, in lists with something in their spare capacity.
func roomyGiven(g given) given {
	g.state, g.args, g.replies = roomyState(g.state), roomy(g.args, 94), roomy(g.replies, api.Reply{Value: 95})
	return g
}

// tellGiven is all that is given as text, with what is in spare capacities.
func tellGiven(g given) string {
	state := slices.Clone(whole(g.state))
	for i := range state {
		state[i] = whole(state[i])
	}
	return tell(g.mod) + tell(state) + tell(whole(g.args)) + tell(whole(g.replies))
}

// listsOf are those of an end that have numbers, as far as their capacities go.
func listsOf(end api.End) [][]int {
	l := [][]int{}
	for _, values := range end.State {
		l = append(l, whole(values))
	}
	for _, a := range end.Asks {
		l = append(l, whole(a.Args))
	}
	return l
}

// wantApart marks each list as its own: those that share memory would have the
// mark of another one.
func wantApart(t *testing.T, told string, l [][]int) {
	t.Helper()
	for i := range l {
		for k := range l[i] {
			l[i][k] = 10000 + i
		}
	}
	for i := range l {
		for _, n := range l[i] {
			if n != 10000+i {
				t.Errorf("%s: two lists share memory", short(told))
				return
			}
		}
	}
}

// wantOwn asks that a run changes nothing of what it is given, and answers
// memory that nobody else has.
func wantOwn(t *testing.T, g given, fuel int) {
	t.Helper()
	g = roomyGiven(g)
	before := tellGiven(g)
	run := func() api.End {
		end, e := eval.Run(g.mod, g.state, g.fn, g.args, fuel, g.replies)
		if e != api.OK {
			t.Fatalf("Run of function %d of %s: %v", g.fn, g.source, e)
		}
		if after := tellGiven(g); after != before {
			t.Fatalf("Run of function %d of %s has changed %s to %s", g.fn, g.source, before, after)
		}
		return end
	}
	first, second := run(), run()
	want := tell(second)
	if tell(first) != want {
		t.Errorf("Run of function %d of %s: %+v, and then %s", g.fn, g.source, first, want)
	}
	wantApart(t, g.source, listsOf(first))
	clear(whole(first.State))
	clear(whole(first.Asks))
	if tell(second) != want || tellGiven(g) != before || tell(run()) != want {
		t.Errorf("Run of function %d of %s answers memory that is not new", g.fn, g.source)
	}
	wantNotKept(t, g, fuel)
}

// wantNotKept asks that an end stays as it is, whatever becomes of what was given.
func wantNotKept(t *testing.T, g given, fuel int) {
	t.Helper()
	g = roomyGiven(g)
	end, _ := eval.Run(g.mod, g.state, g.fn, g.args, fuel, g.replies)
	want := tell(end)
	for _, values := range g.state {
		clear(whole(values))
	}
	clear(whole(g.state))
	clear(whole(g.args))
	clear(whole(g.replies))
	if tell(end) != want {
		t.Errorf("Run of function %d of %s keeps what it was given: %s, and then %+v", g.fn, g.source, want, end)
	}
}

func TestWhatIsGivenStays(t *testing.T) {
	for seed := range int64(150) {
		g := made(t, seed)
		wantOwn(t, g, most)
		wantOwn(t, g, int(seed))
	}
	m := parsed(t, "var a:[3]int;var b:int;fn f(x:int){x=5;a[1]=x;b=random(x);score(b,x);spawn(1.0,1.0,x);count();g(x,b);}fn g(y:int,z:int){y=z;score(y,z);}")
	wantOwn(t, given{source: "one", mod: m, state: [][]int{{1, 2, 3}, {4}}, args: []int{7}, replies: replies(8, 9)}, 100)
	wantOwn(t, given{source: "none", mod: parsed(t, "fn f(){}")}, 100)
}

func TestArgumentsAreCopied(t *testing.T) {
	// The first function gets its arguments from outside: setting them is its own affair.
	m, args := parsed(t, "fn f(x:int,y:bool):int{x=x*2;y=!y;return x;}"), []int{21, 1}
	if end, e := eval.Run(m, nil, 0, args, 100, nil); e != api.OK || end.Value != 42 || args[0] != 21 || args[1] != 1 {
		t.Error(end, e, args)
	}
}

func TestStartsAreNew(t *testing.T) {
	m := parsed(t, "var a:int=5;var b:[3]int;var c:[1]fix;var d:bool=true;")
	before := tell(m)
	first, second := started(t, m), started(t, m)
	want := tell(second)
	l := [][]int{}
	for _, values := range first {
		l = append(l, whole(values))
	}
	wantApart(t, "Start", l)
	clear(whole(first))
	if tell(second) != want || tell(started(t, m)) != want || tell(m) != before {
		t.Error("Start answers memory that is not new")
	}
}

func TestSharedListsOfAState(t *testing.T) {
	// A state whose lists are one and the same is as good as any other one.
	m, values := parsed(t, "var a:[2]int;var b:[2]int;fn f(){a[0]=1;b[1]=2;}"), []int{5, 6}
	end, e := eval.Run(m, [][]int{values, values}, 0, nil, 100, nil)
	if e != api.OK || tell(end.State) != "[[1 6] [5 2]]" || tell(values) != "[5 6]" {
		t.Error(end, e, values)
	}
}
