package gen_test

import (
	"reflect"
	"testing"

	"tiltyard/api"
	"tiltyard/gen"
	"tiltyard/parse"
)

// P14.4

// piece is where a list, with its spare capacity, or a text is in memory.
type piece struct{ from, end uintptr }

func (p piece) shares(q piece) bool { return p.from < q.end && q.from < p.end }

// parts calls a function for all parts of a value: its fields, or its elements.
func parts(v reflect.Value, part func(reflect.Value)) {
	switch v.Kind() {
	case reflect.Struct:
		for i := range v.NumField() {
			part(v.Field(i))
		}
	case reflect.Slice:
		for i := range v.Len() {
			part(v.Index(i))
		}
	}
}

// pieces are the lists and the texts in a value.
func pieces(v reflect.Value) (lists, texts []piece) {
	switch v.Kind() {
	case reflect.Slice:
		lists = append(lists, piece{v.Pointer(), v.Pointer() + uintptr(v.Cap())*v.Type().Elem().Size()})
	case reflect.String:
		texts = append(texts, piece{v.Pointer(), v.Pointer() + uintptr(v.Len())})
	}
	parts(v, func(part reflect.Value) {
		l, s := pieces(part)
		lists, texts = append(lists, l...), append(texts, s...)
	})
	return lists, texts
}

// widen gives each list in a value spare capacity, with something in it.
func widen(v reflect.Value) {
	if v.Kind() == reflect.Slice {
		wide := reflect.MakeSlice(v.Type(), v.Len()+2, v.Len()+2)
		reflect.Copy(wide, v)
		fill(wide.Index(v.Len()))
		fill(wide.Index(v.Len() + 1))
		v.Set(wide.Slice(0, v.Len()))
	}
	parts(v, widen)
}

func fill(v reflect.Value) {
	switch v.Kind() {
	case reflect.Int:
		v.SetInt(99)
	case reflect.String:
		v.SetString("spare")
	}
	parts(v, fill)
}

// whole is a value as text, with all that is in the spare capacity of its lists.
func whole(v reflect.Value) string {
	switch v.Kind() {
	case reflect.Slice:
		v = v.Slice(0, v.Cap())
	case reflect.Int, reflect.String:
		return tell(v.Interface())
	}
	s := "("
	parts(v, func(part reflect.Value) { s += whole(part) + " " })
	return s + ")"
}

// wantApart asks that no piece of the one list shares memory with one of the other.
func wantApart(t *testing.T, told string, l, others []piece) {
	t.Helper()
	for _, x := range l {
		for _, y := range others {
			if x.shares(y) {
				t.Errorf("Gen of %s: two parts share memory", told)
				return
			}
		}
	}
}

// wantOwn asks that Gen leaves a tree alone, and shares nothing with it.
func wantOwn(t *testing.T, m api.Mod) {
	t.Helper()
	tree := reflect.ValueOf(&m).Elem()
	widen(tree)
	before := whole(tree)
	x, e := gen.Gen(m)
	if after := whole(tree); after != before {
		t.Errorf("Gen has changed %s to %s", before, after)
	}
	y, again := gen.Gen(m)
	if tell(x) != tell(y) || e != again {
		t.Errorf("Gen of %s: %v and %s, then %v and %s", before, e, tell(x), again, tell(y))
	}
	of, ofTexts := pieces(tree)
	lists, texts := pieces(reflect.ValueOf(x))
	wantApart(t, before, lists, of)
	wantApart(t, before, texts, ofTexts)
	for i := range lists {
		wantApart(t, before, lists[i:i+1], lists[i+1:])
	}
	other, _ := pieces(reflect.ValueOf(y))
	wantApart(t, before, lists, other)
}

func TestTreesAreLeftAlone(t *testing.T) {
	for _, s := range []string{
		"", "fn f(){}", "var a:int=3;var b:[2]ent;", "fn f(a:int,b:bool):int{let c:fix=1.0;while b{a=a+1;}return a;}",
		"var v:bool;fn f(x:int){g(x);}fn g(y:int){if v&&y<1||!v{f(y);}else{v=false;}}",
		"fn f(){g();}", "fn f():int{}", // what is refused
	} {
		wantOwn(t, parsed(t, s))
	}
	for seed := range int64(60) {
		source, _ := newMaker(seed, "").mod(t)
		wantOwn(t, parsed(t, source))
	}
}

// twice is a tree in which all that stands twice is the same memory.
func twice() api.Mod {
	m, _ := parse.Parse("fn f(a:int,b:bool){let c:int=a;if b&&b{a=a+1;}}")
	f := m.Funcs[0]
	again := f.Body[1]
	again.Else = again.Body
	f.Body = append(f.Body, again, again)
	g := f
	g.Name = "g"
	return api.Mod{Funcs: []api.Func{f, g}}
}

func TestSharedTreesBecomeListsOfTheirOwn(t *testing.T) {
	m := twice()
	x, e := gen.Gen(m)
	if e != api.OK || len(x.Fns) != 2 || tell(x.Fns[0].Code) != tell(x.Fns[1].Code) {
		t.Fatalf("%v, %+v", e, x)
	}
	lists, _ := pieces(reflect.ValueOf(x))
	for i := range lists {
		wantApart(t, "lists that are shared", lists[i:i+1], lists[i+1:])
	}
	// Whatever becomes of the tree, the image stays as it is.
	want := tell(x)
	fill(reflect.ValueOf(m))
	if tell(x) != want {
		t.Error("Gen keeps its argument")
	}
}
