package verify_test

import (
	"fmt"
	"slices"
	"strconv"
	"strings"
	"testing"

	"tiltyard/api"
	"tiltyard/verify"
)

// tell is anything as text, cut where it is long.
func tell(x any) string {
	s := fmt.Sprintf("%+v", x)
	if len(s) > 600 {
		return s[:600] + " ..."
	}
	return s
}

// coded reads code as the chapter writes it: `Push 1 bool, Else 3, Ret`.
func coded(text string) []api.Instr {
	code := []api.Instr{}
	for _, part := range strings.Split(text, ",") {
		words := strings.Fields(part)
		if len(words) == 0 {
			continue
		}
		operands := [2]int{}
		for k, word := range words[1:] {
			n, err := strconv.Atoi(word)
			if err != nil {
				n = slices.Index(kinds(), word)
			}
			operands[k] = n
		}
		code = append(code, api.Instr{Op: 1 + slices.Index(names(), words[0]), A: operands[0], B: operands[1]})
	}
	return code
}

// function is f() with that code.
func function(text string) api.Fn { return api.Fn{Name: "f", Code: coded(text)} }

func withCode(text string) api.Image { return api.Image{Fns: []api.Fn{function(text)}} }

// called is a function without code of that name, with those parameters.
func called(name string, result int, params ...int) api.Fn {
	return api.Fn{Name: name, Params: params, Result: result, Locals: params}
}

func ok() api.Fault { return api.Fault{} }

func jump(at int) api.Fault { return api.Fault{Code: api.ErrJump, At: at} }

func stack(at int) api.Fault { return api.Fault{Code: api.ErrStack, At: at} }

func slot(at int) api.Fault { return api.Fault{Code: api.ErrSlot, At: at} }

// wantFault asks for a fault of Verify, and for none or an error of Depth.
func wantFault(t *testing.T, x api.Image, want api.Fault) {
	t.Helper()
	if got := verify.Verify(x); got != want {
		t.Errorf("Verify of %s: %v, want %v", tell(x), got, want)
	}
	for k := range x.Fns {
		n, e := verify.Depth(x, k)
		if (e == api.OK) != (want == ok()) || e != api.OK && (e != api.ErrArg || n != 0) {
			t.Errorf("Depth of %s: %d, %v", tell(x), n, e)
		}
	}
}

// wantAsModel asks for what the model tells of an image.
func wantAsModel(t *testing.T, x api.Image) {
	t.Helper()
	m, want := newModel(x)
	wantFault(t, x, want)
	for k := range x.Fns {
		if n, e := verify.Depth(x, k); e == api.OK && n != m.depth(k) {
			t.Errorf("Depth of %d of %s: %d, want %d", k, tell(x), n, m.depth(k))
		}
	}
}

func TestExamples(t *testing.T) {
	wantFault(t, withCode("Ret"), ok())
	wantFault(t, withCode(""), jump(0))
	wantFault(t, withCode("Push 1 int"), jump(0))
	wantFault(t, withCode("Push 1 int, Ret"), stack(1))
	wantFault(t, withCode("Push 1 bool, Else 3, Push 1 int, Ret"), stack(3))
	wantFault(t, withCode("Load 0"), slot(0))
	wantFault(t, withCode("Sys 16"), slot(0))
	wantFault(t, withCode("Jump 1"), jump(0))
}

// P16.1

func TestInvalidImages(t *testing.T) {
	none := func(e api.Errno) api.Fault { return api.Fault{Code: e, At: -1} }
	wantFault(t, api.Image{}, ok())
	wantFault(t, api.Image{Globs: []api.Glob{{Type: api.TyEnt}}}, ok())
	for _, x := range []api.Image{
		{Globs: []api.Glob{{}}},
		{Globs: []api.Glob{{Type: api.TyBool, Value: 2}}},
		{Globs: slices.Repeat([]api.Glob{{Type: api.TyInt}}, api.MaxVars+1)},
		{Fns: slices.Repeat([]api.Fn{function("Ret")}, api.MaxFuncs+1)},
		{Fns: []api.Fn{{Code: coded("Ret")}}},
		{Fns: []api.Fn{{Name: "f", Result: 5, Code: coded("Ret")}}},
		{Fns: []api.Fn{{Name: "f", Params: []int{1}, Code: coded("Ret")}}},
		{Fns: []api.Fn{{Name: "f", Code: slices.Repeat(coded("Ret"), api.MaxCode+1)}}},
		{Fns: []api.Fn{{Name: "f", Code: []api.Instr{{}}}}},
		{Fns: []api.Fn{{Name: "f", Code: []api.Instr{{Op: 34}}}}},
		{Fns: []api.Fn{{Name: "f", Code: []api.Instr{{Op: -1}}}}},
		{Fns: []api.Fn{{Name: "f", Code: []api.Instr{{Op: api.DoPush, B: 5}}}}},
		{Fns: []api.Fn{{Name: "f", Code: []api.Instr{{Op: api.DoRet}, {Op: api.DoRet, B: -1}}}}},
		// What is wrong with the image comes ahead of all that is wrong with a function.
		{Fns: []api.Fn{function("Pop"), function("Load 7"), {Name: "if", Code: coded("Ret")}}},
	} {
		wantFault(t, x, none(api.ErrImage))
	}
	long := api.Image{}
	for k := range 16 {
		long.Fns = append(long.Fns, api.Fn{Name: "f" + strconv.Itoa(k), Code: slices.Repeat(coded("Ret"), api.MaxCode)})
	}
	wantFault(t, long, none(api.ErrLong))
	long.Fns[3].Code[0] = api.Instr{Op: api.DoPop}
	wantFault(t, long, none(api.ErrLong))
	wantFault(t, api.Image{Fns: long.Fns[:10]}, stack(3*65536))
}

func TestNamesOfFunctions(t *testing.T) {
	ret := func(name string) api.Fn { return api.Fn{Name: name, Code: coded("Ret")} }
	for _, c := range []struct {
		names string
		want  api.Fault
	}{
		{"f", ok()}, {"f g h", ok()}, {"f f", slot(65536)}, {"f g f", slot(2 * 65536)}, {"f g g", slot(2 * 65536)},
		{"f g f g", slot(2 * 65536)}, {"a b c d e e", slot(5 * 65536)}, {"f ff", ok()}, {"start tick", ok()},
		{"tick tick", slot(65536)}, {"join", slot(0)}, {"f join", slot(65536)}, {"touch tick tick", slot(0)},
		{"tick tick touch", slot(65536)},
		// What the engine and the language have may be names here.
		{"spawn score tofix toint", ok()},
	} {
		x := api.Image{}
		for _, name := range strings.Fields(c.names) {
			x.Fns = append(x.Fns, ret(name))
		}
		wantFault(t, x, c.want)
	}
	x := api.Image{}
	for k := range api.MaxFuncs {
		x.Fns = append(x.Fns, ret("f"+strconv.Itoa(k)))
	}
	wantFault(t, x, ok())
	x.Fns[63].Name = "f0"
	wantFault(t, x, slot(63*65536))
}

func TestFunctionsThatTheServerCalls(t *testing.T) {
	backs := map[string][]int{"start": {}, "join": {1}, "leave": {1}, "input": {1, 1}, "tick": {}, "touch": {4, 4}}
	lists := [][]int{{}, {1}, {2}, {3}, {4}, {1, 1}, {4, 4}, {1, 4}, {4, 1}, {2, 1}, {1, 1, 1}, {4, 4, 4}}
	for name, params := range backs {
		for _, list := range lists {
			for result := range 5 {
				f := api.Fn{Name: name, Params: list, Result: result, Locals: list, Code: coded("Jump 0")}
				want := ok()
				if result != 0 || !slices.Equal(list, params) {
					want = slot(65536)
				}
				wantFault(t, api.Image{Fns: []api.Fn{function("Ret"), f}}, want)
				f.Name += "s"
				wantFault(t, api.Image{Fns: []api.Fn{function("Ret"), f}}, ok())
			}
		}
	}
	more := api.Fn{Name: "join", Params: []int{1}, Locals: []int{1, 4, 2}, Code: coded("Ret")}
	wantFault(t, api.Image{Fns: []api.Fn{more}}, ok())
}

func TestTheFirstFunctionThatIsWrong(t *testing.T) {
	named := func(name, text string) api.Fn { return api.Fn{Name: name, Code: coded(text)} }
	// All names and parameters come ahead of all code.
	wantFault(t, api.Image{Fns: []api.Fn{named("f", "Pop"), named("g", "Load 0"), named("f", "Ret")}}, slot(2*65536))
	wantFault(t, api.Image{Fns: []api.Fn{named("f", ""), named("join", "Ret")}}, slot(65536))
	wantFault(t, api.Image{Fns: []api.Fn{named("join", "Ret"), named("join", "Ret")}}, slot(0))
	wantFault(t, api.Image{Fns: []api.Fn{named("f", "Ret"), named("g", "Ret, Pop"), named("h", "Jump 1, Pop")}}, stack(2*65536+1))
	wantFault(t, api.Image{Fns: []api.Fn{named("f", "Ret"), named("g", "Jump 5"), named("h", "Pop")}}, jump(65536))
	wantFault(t, api.Image{Fns: []api.Fn{named("f", "Ret"), named("g", ""), named("h", "Pop")}}, jump(65536))
	// Within a function it is the first one on the way, which may stand further back.
	wantFault(t, withCode("Jump 3, Pop, Ret, Push 1 bool, Else 1, Load 0"), stack(1))
	wantFault(t, withCode("Jump 2, Pop, Load 0"), slot(2))
}

func TestAsTheModelTells(t *testing.T) {
	found := map[api.Errno]int{}
	for seed := range int64(200) {
		r := newMaker(seed)
		x := r.image()
		wantFault(t, x, ok())
		wantAsModel(t, x)
		for range 30 {
			y := r.spoilt(x)
			wantAsModel(t, y)
			found[verify.Verify(y).Code]++
		}
	}
	for _, e := range []api.Errno{api.OK, api.ErrImage, api.ErrJump, api.ErrStack, api.ErrSlot} {
		if found[e] < 100 {
			t.Errorf("only %d of the images have the error %v", found[e], e)
		}
	}
}
