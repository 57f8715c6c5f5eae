package gen_test

import (
	"math/rand"
	"reflect"
	"slices"
	"strings"
	"testing"

	"tiltyard/api"
	"tiltyard/check"
	"tiltyard/gen"
)

// P14.1 to P14.3, all at once

func TestMadeMods(t *testing.T) {
	seen, targets := [api.DoPop + 1]int{}, 0
	for seed := range int64(2000) {
		source, want := newMaker(seed, "").mod(t)
		got := imageOf(t, source)
		if tell(got) != tell(want) {
			t.Fatalf("Gen of %q:\n%s, want\n%s", source, tell(got), tell(want))
		}
		for _, f := range got.Fns {
			for _, i := range f.Code {
				seen[i.Op]++
			}
			targets = max(targets, slices.MaxFunc(f.Code, func(a, b api.Instr) int { return jumped(a) - jumped(b) }).A)
		}
	}
	if slices.Min(seen[api.DoPush:]) < 100 || targets < 100 {
		t.Errorf("%v instructions of each kind, and jumps to %d, are too few", seen, targets)
	}
}

// jumped is the target of an instruction that is a jump.
func jumped(i api.Instr) int {
	if i.Op == api.DoJump || i.Op == api.DoElse {
		return i.A
	}
	return 0
}

// P14.5

// wantSame asks that a tree has the same image as a source.
func wantSame(t *testing.T, source string, m api.Mod) {
	t.Helper()
	got, e := gen.Gen(m)
	if want := imageOf(t, source); e != api.OK || tell(got) != tell(want) {
		t.Errorf("Gen of what is the same as %q: %v and %s, want %s", source, e, tell(got), tell(want))
	}
}

func TestNamesAndOffsetsDoNotCount(t *testing.T) {
	for seed := range int64(300) {
		source, _ := newMaker(seed, "").mod(t)
		renamed, _ := newMaker(seed, "other_").mod(t)
		wantSame(t, source, parsed(t, renamed))
		wantSame(t, source, parsed(t, strings.ReplaceAll(source, " ", "\n#\n")))
	}
	wantSame(t, "fn f(b:bool):bool{if b{}else if !b{}return b;}", parsed(t, "fn f(c:bool):bool{if(c){}else{if((!c)){}else{}}return((c));}"))
	wantSame(t, "var a:int;var b:[2]fix;fn f(){b[a]=0.5;}", parsed(t, "var b:int=0;var a:[2]fix;fn f(){a[b]=0.50;}"))
}

func TestWhatWasToldBeforeDoesNotCount(t *testing.T) {
	for seed := range int64(200) {
		source, _ := newMaker(seed, "").mod(t)
		m := parsed(t, source)
		litter(reflect.ValueOf(&m).Elem(), rand.New(rand.NewSource(seed)))
		wantSame(t, source, m)
		checked, _ := check.Check(m)
		wantSame(t, source, checked)
	}
}

// litter changes all that check tells of a tree, and its offsets.
func litter(v reflect.Value, r *rand.Rand) {
	switch v.Kind() {
	case reflect.Slice:
		for i := range v.Len() {
			litter(v.Index(i), r)
		}
	case reflect.Struct:
		for i := range v.NumField() {
			told := "At Place"
			if v.Type() == reflect.TypeFor[api.Expr]() {
				told = "At Place Type"
			}
			switch name := v.Type().Field(i).Name; {
			case name == "Locals":
				v.Field(i).Set(reflect.ValueOf([]int{r.Intn(9), api.TyFix, -1}))
			case slices.Contains(strings.Fields(told), name):
				v.Field(i).SetInt(int64(r.Intn(120) - 110))
			default:
				litter(v.Field(i), r)
			}
		}
	}
}
