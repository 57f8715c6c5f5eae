package fold_test

import (
	"slices"
	"testing"
	"unsafe"

	"tiltyard/api"
	"tiltyard/fold"
)

// P13.2

// piece is where a list or a text is in memory.
type piece struct{ from, end uintptr }

func pieceOf[T any](l []T) piece {
	from := uintptr(unsafe.Pointer(unsafe.SliceData(l)))
	return piece{from, from + uintptr(cap(l))*unsafe.Sizeof(*new(T))}
}

func pieceOfText(s string) piece {
	from := uintptr(unsafe.Pointer(unsafe.StringData(s)))
	return piece{from, from + uintptr(len(s))}
}

// listsOf are the lists of a tree, textsOf its names.
func listsOf(m api.Mod) []piece {
	l := []piece{pieceOf(m.Vars), pieceOf(m.Funcs)}
	for _, f := range m.Funcs {
		l = append(l, pieceOf(f.Params), pieceOf(f.Body), pieceOf(f.Locals))
	}
	walk(m, func(s *api.Stmt) {
		l = append(l, pieceOf(s.Exprs), pieceOf(s.Body), pieceOf(s.Else))
	}, func(e *api.Expr) {
		l = append(l, pieceOf(e.Args))
	})
	return l
}

func textsOf(m api.Mod) []piece {
	l := []piece{}
	for _, v := range m.Vars {
		l = append(l, pieceOfText(v.Name))
	}
	for _, f := range m.Funcs {
		l = append(l, pieceOfText(f.Name))
		for _, p := range f.Params {
			l = append(l, pieceOfText(p.Name))
		}
	}
	walk(m, func(s *api.Stmt) { l = append(l, pieceOfText(s.Name)) }, func(e *api.Expr) { l = append(l, pieceOfText(e.Name)) })
	return l
}

// wantApart asks that no piece of the one list shares memory with one of the other.
func wantApart(t *testing.T, told string, l, others []piece) {
	t.Helper()
	for _, x := range l {
		for _, y := range others {
			if x.from < y.end && y.from < x.end {
				t.Errorf("Fold of %q: two parts share memory", short(told))
				return
			}
		}
	}
}

// wantOwnLists asks that no two pieces of a list share memory.
func wantOwnLists(t *testing.T, told string, l []piece) {
	t.Helper()
	for i := range l {
		wantApart(t, told, l[i:i+1], l[i+1:])
	}
}

// roomy is a list with two more parts in its spare capacity.
func roomy[T any](l []T, spare T) []T { return append(slices.Clone(l), spare, spare)[:len(l)] }

func roomyMod(m api.Mod) api.Mod {
	m.Vars = roomy(m.Vars, api.Var{Name: "spare"})
	m.Funcs = roomy(m.Funcs, api.Func{Name: "spare"})
	for i := range m.Funcs {
		f := &m.Funcs[i]
		f.Params, f.Body, f.Locals = roomy(f.Params, api.Param{Name: "spare"}), roomy(f.Body, api.Stmt{Name: "spare"}), roomy(f.Locals, 99)
	}
	walk(m, func(s *api.Stmt) {
		s.Exprs, s.Body, s.Else = roomy(s.Exprs, api.Expr{Name: "spare"}), roomy(s.Body, api.Stmt{Name: "spare"}), roomy(s.Else, api.Stmt{Name: "spare"})
	}, func(e *api.Expr) {
		e.Args = roomy(e.Args, api.Expr{Name: "spare"})
	})
	return m
}

// whole is a list with its spare capacity.
func whole[T any](l []T) []T { return l[:cap(l)] }

// tellAll is a tree as text, with what is in the spare capacity of its lists.
func tellAll(m api.Mod) string {
	m = api.Mod{Vars: whole(m.Vars), Funcs: slices.Clone(whole(m.Funcs))}
	for i := range m.Funcs {
		f := &m.Funcs[i]
		f.Params, f.Body, f.Locals = whole(f.Params), wholeStmts(f.Body), whole(f.Locals)
	}
	return tell(m)
}

func wholeStmts(l []api.Stmt) []api.Stmt {
	l = slices.Clone(whole(l))
	for i := range l {
		s := &l[i]
		s.Exprs, s.Body, s.Else = wholeExprs(s.Exprs), wholeStmts(s.Body), wholeStmts(s.Else)
	}
	return l
}

func wholeExprs(l []api.Expr) []api.Expr {
	l = slices.Clone(whole(l))
	for i := range l {
		l[i].Args = wholeExprs(l[i].Args)
	}
	return l
}

// spoil overwrites all lists of a tree, with their spare capacities.
func spoil(m api.Mod) {
	lists := []func(){func() { clear(whole(m.Vars)); clear(whole(m.Funcs)) }}
	for _, f := range m.Funcs {
		lists = append(lists, func() { clear(whole(f.Params)); clear(whole(f.Body)); clear(whole(f.Locals)) })
	}
	walk(m, func(s *api.Stmt) {
		s2 := *s
		lists = append(lists, func() { clear(whole(s2.Exprs)); clear(whole(s2.Body)); clear(whole(s2.Else)) })
	}, func(e *api.Expr) {
		args := e.Args
		lists = append(lists, func() { clear(whole(args)) })
	})
	for _, overwrite := range lists {
		overwrite()
	}
}

// wantOwn asks that a fold leaves a tree alone, and shares nothing with it.
func wantOwn(t *testing.T, m api.Mod) {
	t.Helper()
	m = roomyMod(m)
	before := tellAll(m)
	got, e := fold.Fold(m)
	if after := tellAll(m); after != before {
		t.Errorf("Fold has changed %s to %s", short(before), short(after))
	}
	wantApart(t, before, listsOf(got), listsOf(m))
	wantOwnLists(t, before, listsOf(got))
	wantApart(t, before, textsOf(got), textsOf(m))
	again, e2 := fold.Fold(m)
	if tell(again) != tell(got) || e != e2 {
		t.Errorf("Fold of %s: %s, %v, and then %s, %v", short(before), tell(got), e, tell(again), e2)
	}
	wantApart(t, before, listsOf(again), listsOf(got))
	// Whatever becomes of the first answer, the second one stays as it is; and
	// that, whatever becomes of the argument.
	want := tell(again)
	spoil(got)
	if tell(again) != want || tellAll(m) != before {
		t.Errorf("Fold of %s answers memory that is not new", short(before))
	}
	spoil(m)
	if tell(again) != want {
		t.Errorf("Fold of %s keeps its argument", short(before))
	}
}

func TestTreesAreLeftAlone(t *testing.T) {
	sources := []string{
		"", "fn f(){}", "var a:int=3;", "fn f():int{return 1+2*3;}", "fn f(b:bool):bool{return !!b&&true;}",
		"var v:int;fn f(x:int,y:int){if true{v=1+1;if false{}else{f(x,y);g(1);}return;}let a:int=1;}fn g(z:int){}",
		"fn f(){g();}", "fn f():int{}", "fn f(){tofix(1);f();}", // what is refused
	}
	for seed := range int64(40) {
		sources = append(sources, made(t, seed).source)
	}
	for _, s := range sources {
		wantOwn(t, parsed(t, s))
		if m, e := fold.Fold(parsed(t, s)); e == api.OK {
			wantOwn(t, m)
		}
	}
	wantOwn(t, parsed(t, "var x:fix;fn f(){"+thirds("x", api.MaxBody)+"}"))
}

func TestSharedListsBecomeTwo(t *testing.T) {
	args := []api.Expr{{Kind: api.ExprInt, Num: 1, At: 5}}
	call := api.Expr{Kind: api.ExprCall, Name: "random", Args: args, At: 4}
	sum := api.Expr{Kind: api.ExprBoth, Op: api.OpAdd, Args: []api.Expr{call, call}, At: 6}
	body := []api.Stmt{{Kind: api.StmtCall, Exprs: []api.Expr{{Kind: api.ExprCall, Name: "random", Args: []api.Expr{sum}}}, At: 3}}
	sure := api.Stmt{Kind: api.StmtIf, Exprs: []api.Expr{{Kind: api.ExprBool, Num: 1}}, Body: body}
	m := api.Mod{Funcs: []api.Func{{Name: "f", Body: []api.Stmt{sure, sure}}, {Name: "g", Body: []api.Stmt{sure}}}}
	got := foldedTree(t, m)
	if len(got.Funcs[0].Body) != 2 || len(got.Funcs[1].Body) != 1 {
		t.Errorf("%+v", got)
	}
	wantOwnLists(t, "shared lists", listsOf(got))
	wantApart(t, "shared lists", listsOf(got), listsOf(m))
}
