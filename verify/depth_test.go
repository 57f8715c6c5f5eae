package verify_test

import (
	"slices"
	"strings"
	"testing"

	"tiltyard/api"
	"tiltyard/verify"
)

// P16.3

func wantDepth(t *testing.T, x api.Image, fn, want int) {
	t.Helper()
	if n, e := verify.Depth(x, fn); e != api.OK || n != want {
		t.Errorf("Depth of %d of %s: %d, %v, want %d", fn, tell(x), n, e, want)
	}
}

func wantNoDepth(t *testing.T, x api.Image, fn int) {
	t.Helper()
	if n, e := verify.Depth(x, fn); e != api.ErrArg || n != 0 {
		t.Errorf("Depth of %d of %s: %d, %v, want %v", fn, tell(x), n, e, api.ErrArg)
	}
}

func TestDepth(t *testing.T) {
	for _, c := range []struct {
		text string
		want int
	}{
		{"Ret", 0}, {"Jump 0", 0}, {"Push 1 int, Pop, Ret", 1}, {"Push 1 int, Push 1 int, Pop, Pop, Ret", 2},
		{"Push 1 int, Push 1 int, AddI, Pop, Ret", 2}, {"Push 1 int, Pop, Push 1 int, Pop, Ret", 1},
		// The one way, the other, and what is never reached.
		{"Push 1 bool, Else 4, Push 1 int, Pop, Ret", 1}, {"Push 1 bool, Else 6, Push 1 int, Push 1 int, Pop, Pop, Ret", 2},
		{"Push 1 bool, Else 3, Ret, Push 1 int, Push 1 int, Push 1 int, Pop, Pop, Pop, Ret", 3},
		{"Push 1 bool, Else 7, Push 1 int, Push 1 int, Pop, Pop, Ret, Push 1 int, Pop, Ret", 2},
		{"Ret, Push 1 int, Push 1 int, Push 1 int", 0}, {"Push 1 int, Pop, Ret, Push 1 int, Push 1 int", 1},
		{"Push 1 bool, Else 0, Push 1 int, Pop, Jump 0", 1},
		// Calls put values in the place of those that they pop.
		{"Sys 11, Sys 12, Sys 1, Ret", 1}, {"Push 1 fix, Push 1 fix, Push 1 int, Sys 0, Sys 1, Ret", 3}, {"Sys 11, Pop, Ret", 1}, {"Call 0, Call 0, Ret", 0},
	} {
		wantDepth(t, withCode(c.text), 0, c.want)
	}
}

func TestDepthOfEachFunction(t *testing.T) {
	ints := func(n int) string {
		return strings.Repeat("Push 1 int, ", n) + strings.Repeat("Pop, ", n) + "Ret"
	}
	x := api.Image{}
	for k, n := range []int{3, 0, 7, 399, 400, 1} {
		x.Fns = append(x.Fns, api.Fn{Name: "f" + string(rune('a'+k)), Code: coded(ints(n))})
	}
	for k, n := range []int{3, 0, 7, 399, 400, 1} {
		wantDepth(t, x, k, n)
	}
	// What a function has on its own stack does not count for those that call it.
	x.Fns[1].Code = coded("Call 4, Call 1, Ret")
	wantDepth(t, x, 1, 0)
	for _, fn := range []int{-1, 6, 7, 64, 1 << 32, api.MaxInt, api.MinInt} {
		wantNoDepth(t, x, fn)
	}
	// One function that is wrong leaves none with a depth.
	x.Fns[5].Code = coded("Pop")
	for k := range x.Fns {
		wantNoDepth(t, x, k)
	}
	x.Fns[5].Code, x.Fns[5].Name = coded("Ret"), "fa"
	wantNoDepth(t, x, 0)
	x.Fns[5].Name = ""
	wantNoDepth(t, x, 0)
	for _, fn := range []int{-1, 0, 1} {
		wantNoDepth(t, api.Image{}, fn)
	}
}

func TestFullStacks(t *testing.T) {
	const most = api.MaxStack
	full := strings.Repeat("Push 1 bool, ", most)
	empty := strings.Repeat("Pop, ", most) + "Ret"
	wantDepth(t, withCode(full+empty), 0, most)
	wantFault(t, withCode(full+"Push 1 bool, Pop, "+empty), stack(most))
	wantFault(t, withCode(full+"Call 0, "+empty), ok())
	wantFault(t, withCode(full+"Sys 11, Pop, "+empty), stack(most))
	wantFault(t, withCode(full+"Not, "+empty), ok())
	wantFault(t, withCode(full+"Push 1 bool, Eq, "+empty), stack(most))
	wantFault(t, withCode(full+"Pop, Push 1 bool, "+empty), ok())
	wantFault(t, withCode(full+"Jump 0"), stack(0))
	// A call pops its values ahead of pushing its result.
	g := called("g", api.TyBool, api.TyBool)
	g.Code = coded("Load 0, Ret")
	h := called("h", api.TyBool)
	h.Code = coded("Push 0 bool, Ret")
	x := api.Image{Fns: []api.Fn{function(full + "Call 1, " + empty), g, h}}
	wantDepth(t, x, 0, most)
	x.Fns[0].Code[most].A = 2
	wantFault(t, x, stack(most))
	// Variables are on no stack.
	x = withCode(full + "Store 31, Load 31, " + empty)
	x.Fns[0].Locals = slices.Repeat([]int{api.TyBool}, api.MaxLocals)
	wantDepth(t, x, 0, most)
	x = withCode(full + "Load 0, Pop, " + empty)
	x.Fns[0].Locals = []int{api.TyEnt}
	wantFault(t, x, stack(most))
}
