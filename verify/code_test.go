package verify_test

import (
	"slices"
	"strconv"
	"strings"
	"testing"

	"tiltyard/api"
	"tiltyard/verify"
)

// P16.2

// pushed is code that pushes a value of each of those types.
func pushed(types ...int) string {
	s := ""
	for _, t := range types {
		s += "Push 0 " + kinds()[t] + ", "
	}
	return s
}

// stacks are all stacks of up to that many values.
func stacks(most int) [][]int {
	all := [][]int{{}}
	for from := 0; most > 0; most-- {
		longest := all[from:]
		from = len(all)
		for _, stack := range longest {
			for t := api.TyInt; t <= api.TyEnt; t++ {
				all = append(all, append(slices.Clone(stack), t))
			}
		}
	}
	return all
}

// within is an image in which f, with that code, has something of everything.
func within(text string) api.Image {
	f := api.Fn{Name: "f", Params: []int{1, 2}, Locals: []int{1, 2, 3, 4}, Code: coded(text)}
	g := api.Fn{Name: "g", Params: []int{1, 4}, Result: api.TyFix, Locals: []int{1, 4}, Code: coded("Push 0 fix, Ret")}
	h := api.Fn{Name: "h", Code: coded("Ret")}
	x := api.Image{Fns: []api.Fn{h, f, g}}
	for t := api.TyInt; t <= api.TyEnt; t++ {
		x.Globs = append(x.Globs, api.Glob{Type: t}, api.Glob{Type: t, Size: t})
	}
	return x
}

// operands are all those with which an instruction may be, in the images above.
func operands(name string) []string {
	switch name {
	case "Push":
		return []string{"7 int", "-7 fix", "1 bool", "0 ent"}
	case "Load", "Store":
		return strings.Fields("0 1 2 3")
	case "Get", "Set":
		return strings.Fields("0 2 4 6")
	case "At", "Put":
		return strings.Fields("1 3 5 7")
	case "Call":
		return strings.Fields("0 1 2")
	case "Sys":
		return strings.Fields("0 1 2 3 4 5 6 7 8 9 10 11 12 13 14 15")
	}
	return []string{"0"}
}

// TestWhatEachInstructionPopsAndPushes puts each instruction on each small stack,
// and asks what is on the stack behind it.
func TestWhatEachInstructionPopsAndPushes(t *testing.T) {
	for _, name := range names() {
		accepted := 0
		for _, stack := range stacks(3) {
			for _, a := range operands(name) {
				text := pushed(stack...) + name + " " + a
				for _, use := range []string{"Ret", "Pop, Ret", "NegI, Pop, Ret", "NegF, Pop, Ret", "Not, Pop, Ret", "Sys 1, Ret"} {
					x := within(text + ", " + use)
					wantAsModel(t, x)
					if verify.Verify(x) == ok() {
						accepted++
					}
				}
			}
		}
		if accepted == 0 {
			t.Errorf("%s is never accepted", name)
		}
	}
}

// behind is the fault of an instruction, that stands behind those pushed: none,
// if what is on the stack behind it is what the code for the rest pops.
func behind(t *testing.T, types []int, instruction, rest string, want api.Errno) {
	t.Helper()
	f := ok()
	if want != api.OK {
		f = api.Fault{Code: want, At: 65536 + len(types)}
	}
	wantFault(t, within(pushed(types...)+instruction+", "+rest), f)
}

// The types, as short as they stand in lists of them.
const i, f, b, e = api.TyInt, api.TyFix, api.TyBool, api.TyEnt

func TestTypesOfTheTable(t *testing.T) {
	// What each of these pops off the stack pops a value of one type only.
	takes := []string{"", "NegI, Pop", "NegF, Pop", "Not, Pop", "Sys 1"}
	for _, r := range []struct {
		instructions string
		pops         []int
		pushes       int
	}{
		{"AddI SubI MulI DivI ModI", []int{i, i}, i}, {"NegI", []int{i}, i},
		{"AddF SubF MulF DivF", []int{f, f}, f}, {"NegF", []int{f}, f},
		{"Eq Ne Lt Le Gt Ge", []int{i, i}, b}, {"Eq Ne Lt Le Gt Ge", []int{f, f}, b}, {"Eq Ne", []int{b, b}, b}, {"Eq Ne", []int{e, e}, b},
		{"Not", []int{b}, b}, {"ToFix", []int{i}, f}, {"ToInt", []int{f}, i},
		{"Pop", []int{i}, 0}, {"Pop", []int{f}, 0}, {"Pop", []int{b}, 0}, {"Pop", []int{e}, 0},
	} {
		for _, name := range strings.Fields(r.instructions) {
			behind(t, r.pops, name, takes[r.pushes]+",Ret", api.OK)
			behind(t, r.pops[1:], name, "Ret", api.ErrStack)
			behind(t, append([]int{b}, r.pops...), name, takes[r.pushes]+", Not, Pop, Ret", api.OK)
		}
	}
	for name, stacks := range map[string][][]int{
		"AddI": {{i, f}, {f, i}, {i, b}, {e, i}, {f, f}, {i, i, f}}, "DivF": {{i, f}, {f, i}, {f, b}, {i, i}},
		"Eq": {{i, f}, {f, i}, {b, i}, {e, i}, {i, e}, {i, i, f}, {b, e}}, "Ne": {{i, b}, {e, b}},
		"Lt": {{b, b}, {e, e}, {i, f}, {f, i}, {i, b}, {b, i}}, "Ge": {{b, b}, {e, e}, {f, i}},
		"Not": {{i}, {f}, {e}, {b, i}}, "ToFix": {{f}, {b}, {e}}, "ToInt": {{i}, {b}, {e}}, "NegI": {{f}, {b}, {e}}, "NegF": {{i}, {b}, {e}},
		"Else 0": {{}, {i}, {f}, {e}, {b, e}}, "Pop": {{}},
	} {
		for _, stack := range stacks {
			behind(t, stack, name, "Ret", api.ErrStack)
		}
	}
}

func TestPushedValues(t *testing.T) {
	for _, n := range []int{0, 1, -1, 2, 3, 1 << 32, api.MaxInt, api.MinInt} {
		a := strconv.Itoa(n)
		want := func(right bool) api.Fault {
			if right {
				return ok()
			}
			return slot(0)
		}
		wantFault(t, withCode("Push "+a+" int, Pop, Ret"), ok())
		wantFault(t, withCode("Push "+a+" fix, Pop, Ret"), ok())
		wantFault(t, withCode("Push "+a+" bool, Pop, Ret"), want(n == 0 || n == 1))
		wantFault(t, withCode("Push "+a+" ent, Pop, Ret"), want(n == 0))
		wantFault(t, withCode("Push "+a+" 0, Pop, Ret"), slot(0))
	}
}

func TestOperandsThatAreNotThere(t *testing.T) {
	huge := []int{-1, -2, 64, 256, 1 << 32, api.MaxInt, api.MinInt}
	for name, wrong := range map[string][]int{
		"Load": {4, 5}, "Store": {4, 5}, "Get": {1, 3, 5, 7, 8}, "Set": {1, 3, 5, 7, 8}, "At": {0, 2, 4, 6, 8}, "Put": {0, 2, 4, 6, 8},
		"Call": {3, 4}, "Sys": {16, 17},
	} {
		for _, a := range append(wrong, huge...) {
			// Whatever is on the stack: the operands come first.
			for _, stack := range [][]int{{}, {i}, {f, i, f}} {
				behind(t, stack, name+" "+strconv.Itoa(a), "Ret", api.ErrSlot)
			}
		}
	}
	for _, name := range strings.Fields("AddI SubI MulI DivI ModI NegI AddF SubF MulF DivF NegF Eq Ne Lt Le Gt Ge Not ToFix ToInt Ret Pop") {
		for _, a := range append([]int{1, 2, 3}, huge...) {
			behind(t, nil, name+" "+strconv.Itoa(a), "Ret", api.ErrSlot)
		}
	}
	// Without variables and other functions there is nothing to name.
	for _, text := range []string{"Load 0", "Store 0", "Get 0", "Set 0", "At 0", "Put 0", "Call 1"} {
		wantFault(t, withCode(text+", Ret"), slot(0))
	}
}

func TestSecondOperands(t *testing.T) {
	for _, name := range names()[1:] {
		for _, a := range operands(name) {
			for second := 1; second <= 4; second++ {
				want := api.ErrSlot
				if name == "Jump" || name == "Else" {
					want = api.ErrJump
				}
				text := name + " " + a + " " + strconv.Itoa(second)
				behind(t, nil, text, "Ret", want)
				behind(t, []int{b}, text, "Ret", want)
			}
		}
	}
}

func TestVariables(t *testing.T) {
	// The k-th local variable, and the k-th pair of variables, have the k-th type.
	takes := []string{"NegI, Pop", "NegF, Pop", "Not, Pop", "Sys 1"}
	for k := range 4 {
		local, single, many := strconv.Itoa(k), strconv.Itoa(2*k), strconv.Itoa(2*k+1)
		for other := range 4 {
			rest := takes[other] + ", Ret"
			for _, text := range []string{"Load " + local, "Get " + single, "Push 9 int, At " + many} {
				want := ok()
				if other != k {
					want = stack(65536 + len(coded(text)))
				}
				wantFault(t, within(text+", "+rest), want)
			}
			want := api.OK
			if other != k {
				want = api.ErrStack
			}
			behind(t, []int{other + 1}, "Store "+local, "Ret", want)
			behind(t, []int{other + 1}, "Set "+single, "Ret", want)
			behind(t, []int{i, other + 1}, "Put "+many, "Ret", want)
			behind(t, []int{f, other + 1}, "Put "+many, "Ret", api.ErrStack)
			if other > 0 {
				behind(t, []int{other + 1}, "At "+many, "Ret", api.ErrStack)
			}
		}
		behind(t, nil, "Store "+local, "Ret", api.ErrStack)
		behind(t, nil, "Set "+single, "Ret", api.ErrStack)
		behind(t, nil, "At "+many, "Ret", api.ErrStack)
		behind(t, []int{k + 1}, "Put "+many, "Ret", api.ErrStack)
	}
}

func TestCalls(t *testing.T) {
	// f and g of `within` pop an int and a fix, and an int and an ent; h pops nothing.
	behind(t, nil, "Call 0", "Ret", api.OK)
	behind(t, []int{b}, "Call 0", "Not, Pop, Ret", api.OK)
	behind(t, []int{i, f}, "Call 1", "Ret", api.OK)
	behind(t, []int{i, e}, "Call 2", "NegF, Pop, Ret", api.OK)
	behind(t, []int{i, i, e}, "Call 2", "ToInt, AddI, Pop, Ret", api.OK)
	for _, types := range [][]int{{}, {i}, {f}, {f, i}, {i, e}, {i, f, i}, {f, f}, {i, i}} {
		behind(t, types, "Call 1", "Ret", api.ErrStack)
	}
	for _, types := range [][]int{{}, {e}, {e, i}, {i, f}, {i, e, i}, {e, e}} {
		behind(t, types, "Call 2", "Ret", api.ErrStack)
	}
	// spawn(fix, fix, int): ent; random(int): int; score(int, int); count(): int
	behind(t, []int{f, f, i}, "Sys 0", "Sys 1, Ret", api.OK)
	behind(t, []int{i, f, f}, "Sys 0", "Sys 1, Ret", api.ErrStack)
	behind(t, []int{i}, "Sys 14", "NegI, Pop, Ret", api.OK)
	behind(t, []int{f}, "Sys 14", "Pop, Ret", api.ErrStack)
	behind(t, []int{i, i}, "Sys 15", "Ret", api.OK)
	behind(t, []int{i}, "Sys 15", "Ret", api.ErrStack)
	behind(t, nil, "Sys 11", "NegI, Pop, Ret", api.OK)
	eight := called("h", api.TyEnt, 1, 2, 3, 4, 4, 3, 2, 1)
	eight.Code = coded("Push 0 ent, Ret")
	x := api.Image{Fns: []api.Fn{function(pushed(1, 2, 3, 4, 4, 3, 2, 1) + "Call 1, Sys 1, Ret"), eight}}
	wantFault(t, x, ok())
	x.Fns[0].Code[3].B, x.Fns[0].Code[4].B = api.TyFix, api.TyFix
	wantFault(t, x, stack(8))
	wantFault(t, withCode("Call 0, Jump 0"), ok())
}

func TestResults(t *testing.T) {
	for result := range 5 {
		for _, left := range stacks(2) {
			x := within(pushed(left...) + "Ret")
			x.Fns[1].Result = result
			want := stack(65536 + len(left))
			if len(left) == 0 && result == 0 || len(left) == 1 && left[0] == result {
				want = ok()
			}
			wantFault(t, x, want)
		}
	}
	// Each Ret counts, not only the last one.
	wantFault(t, withCode("Push 1 bool, Else 4, Push 1 int, Ret, Ret"), stack(3))
	wantFault(t, withCode("Push 1 bool, Else 4, Push 1 int, Jump 4, Ret"), stack(4))
}

// codeCase is the code of f(), and what is wrong with it.
type codeCase struct {
	text string
	want api.Fault
}

func wantFaults(t *testing.T, cases []codeCase) {
	t.Helper()
	for _, c := range cases {
		wantFault(t, withCode(c.text), c.want)
	}
}

func TestJumps(t *testing.T) {
	wantFaults(t, []codeCase{
		{"Jump 0", ok()}, {"Jump 1", jump(0)}, {"Jump 1, Ret", ok()}, {"Jump 2, Ret", jump(0)}, {"Jump -1", jump(0)},
		{"Jump 2, Ret, Jump 1", ok()}, {"Jump 9223372036854775807", jump(0)}, {"Jump -9223372036854775808", jump(0)},
		{"Else 0", stack(0)}, {"Else 1", jump(0)}, {"Else 0 1, Ret", jump(0)}, {"Jump 0 3", jump(0)},
		{"Push 1 bool, Else 0, Ret", ok()}, {"Push 1 bool, Else 2, Ret", ok()}, {"Push 1 bool, Else 3, Ret", jump(1)},
		{"Push 1 bool, Else -1, Ret", jump(1)}, {"Push 1 bool, Else 1, Ret", stack(1)}, {"Push 1 bool, Else 0", jump(1)},
		// The target comes ahead of the next instruction, and the values that are popped ahead of both.
		{"Push 1 bool, Push 1 bool, Else 1", jump(2)},
		{"Push 1 bool, Push 1 bool, Else 0", stack(0)},
		{"Push 1 int, Else 0", stack(1)}, {"Push 1 int, Else 7", jump(1)},
		// The end of the code.
		{"Push 1 int, Pop", jump(1)}, {"Push 1 bool, Else 3, Ret, Push 1 int", jump(3)}, {"Jump 2, Ret, Call 0", jump(2)},
		{"Push 1 bool, Else 4, Push 1 int, Pop, Push 2 int", jump(4)},
	})
}

func TestOtherStacksOnAnotherWay(t *testing.T) {
	wantFaults(t, []codeCase{
		{"Push 1 bool, Else 4, Push 1 int, Jump 5, Push 2 int, Pop, Ret", ok()},
		{"Push 1 bool, Else 4, Push 1 int, Jump 5, Push 2 fix, Pop, Ret", stack(5)},
		{"Push 1 bool, Else 4, Push 1 int, Jump 5, Call 0, Pop, Ret", stack(5)},
		{"Push 1 bool, Else 4, Call 0, Jump 5, Push 2 int, Pop, Ret", stack(5)},
		// As many values, of other types, and the same ones in another order.
		{"Push 1 bool, Else 5, Push 1 int, Push 1 fix, Jump 7, Push 1 fix, Push 1 int, Pop, Pop, Ret", stack(7)},
		{"Push 1 bool, Else 5, Push 1 int, Push 1 fix, Jump 7, Push 1 int, Push 1 fix, Pop, Pop, Ret", ok()},
		{"Push 1 bool, Else 5, Push 1 bool, Push 1 fix, Jump 7, Push 1 int, Push 1 fix, Pop, Pop, Ret", stack(7)},
		// Loops.
		{"Push 1 int, Pop, Jump 0", ok()}, {"Push 1 int, Jump 0", stack(0)}, {"Push 1 int, Push 1 bool, Else 1, Pop, Ret", ok()},
		{"Push 1 int, Push 2 int, AddI, Jump 1", ok()}, {"Push 1 int, Push 2 int, Eq, Jump 1", stack(1)},
		{"Push 1 int, Push 1 bool, Else 0, Pop, Ret", stack(0)},
		// The first stack that comes is recorded, be it right or wrong.
		{"Push 1 bool, Else 3, Jump 4, Push 1 int, Pop, Ret", stack(4)},
		{"Push 1 bool, Else 4, Push 1 int, Ret, Pop, Ret", stack(3)},
	})
}

func TestTheSmallestIndexComesFirst(t *testing.T) {
	wantFaults(t, []codeCase{
		// Both ways behind the Else are wrong: the one that stands first counts.
		{"Push 1 bool, Else 4, Pop, Ret, AddI", stack(2)},
		{"Push 1 bool, Else 4, Load 0, Ret, Pop", slot(2)},
		{"Push 1 bool, Else 3, Jump 5, Jump 4, Pop, AddI", stack(4)},
		{"Push 1 bool, Else 3, Jump 5, Jump 6, Pop, AddI, Pop", stack(5)},
		{"Jump 4, Pop, Ret, AddI, Push 1 bool, Else 1, Pop", stack(1)},
		{"Jump 5, Jump 3, Pop, NegI, NegF, Push 1 bool, Else 1, Jump 2", stack(3)},
		{"Jump 3, Jump 2, Pop, Push 1 bool, Else 1, Load 0", stack(2)},
		// Behind a loop's jump back what stands further front is checked first.
		{"Jump 4, NegI, NegF, Not, Push 1 bool, Else 2, Push 1 bool, Else 1, Ret", stack(2)},
		{"Jump 4, NegI, Jump 1, Not, Push 1 bool, Else 2, Load 7", stack(1)},
		// Which stack is recorded first hangs on the order, too.
		{"Push 1 bool, Else 4, Push 1 int, Jump 6, Push 1 fix, Jump 6, NegF, Pop, Ret", stack(6)},
		{"Push 1 bool, Else 4, Push 1 int, Jump 6, Push 1 fix, Jump 6, NegI, Pop, Ret", stack(6)},
		{"Push 1 bool, Else 5, Push 1 fix, Push 1 int, Jump 6, Push 1 int, NegF, Ret", stack(6)},
	})
}

func TestManyPending(t *testing.T) {
	// Each Else leaves its target pending; all of them are checked from the front.
	const n = 3000
	ways, ends := "", ""
	for k := range n {
		ways += "Push 1 bool, Else " + strconv.Itoa(2*n+2+(k*7)%n) + ", "
		ends += "Ret, "
	}
	x := withCode(ways + "Ret, Pop, " + ends)
	wantFault(t, x, ok())
	for _, at := range []int{2*n + 2, 2*n + 3, 2*n + 100, 3 * n, 3*n + 1} {
		y := copied(x)
		y.Fns[0].Code[at], y.Fns[0].Code[3*n+1] = api.Instr{Op: api.DoPop}, api.Instr{Op: api.DoPop}
		wantFault(t, y, stack(at))
	}
}

func TestTheFirstRuleThatIsBroken(t *testing.T) {
	// Operands, then the stack, then the way on.
	wantFault(t, withCode("Store 0"), slot(0))
	wantFault(t, withCode("AddI 1"), slot(0))
	wantFault(t, withCode("AddI"), stack(0))
	wantFault(t, withCode("Push 0 bool, Else 9"), jump(1))
	wantFault(t, withCode("Push 0 int, Else 1 1"), jump(1))
	wantFault(t, withCode(strings.Repeat("Push 1 int, ", api.MaxStack+1)), stack(api.MaxStack))
	wantFault(t, withCode(strings.Repeat("Push 1 int, ", api.MaxStack)+"Push 2 bool"), slot(api.MaxStack))
	wantFault(t, withCode(strings.Repeat("Push 1 int, ", api.MaxStack)), jump(api.MaxStack-1))
}

func TestInstructionsThatAreNeverReached(t *testing.T) {
	for _, rest := range []string{"Load 99", "Pop", "Jump 99", "Push 3 bool", "Sys -1", "Ret 1", "Else 0 2", "Push 1 int", "AddI, NegF, Jump 1"} {
		wantFault(t, withCode("Ret, "+rest), ok())
		wantFault(t, withCode("Jump 0, "+rest), ok())
		wantFault(t, withCode("Push 1 bool, Else 0, Jump 0, "+rest+", Ret"), ok())
		n := strconv.Itoa(1 + len(coded(rest)))
		wantFault(t, withCode("Jump "+n+", "+rest+", Ret"), ok())
	}
	// Which way an Else goes does not matter, nor that a loop never ends.
	wantFault(t, withCode("Push 1 bool, Else 3, Ret, Pop"), stack(3))
	wantFault(t, withCode("Push 0 bool, Else 3, Pop, Ret"), stack(2))
}

func TestLongestCode(t *testing.T) {
	x := api.Image{}
	for k := range 8 {
		x.Fns = append(x.Fns, api.Fn{Name: "f" + strconv.Itoa(k), Code: slices.Repeat(coded("Push 1 int, Pop"), api.MaxCode/2)})
		x.Fns[k].Code[api.MaxCode-1] = api.Instr{Op: api.DoJump, A: api.MaxCode - 2}
	}
	wantFault(t, x, stack(api.MaxCode-2))
	for k := range x.Fns {
		x.Fns[k].Code[api.MaxCode-2] = coded("Jump 0")[0]
	}
	wantFault(t, x, ok())
	x.Fns[7].Code[api.MaxCode-2] = coded("Call 0")[0]
	x.Fns[7].Code[api.MaxCode-1] = coded("Call 0")[0]
	wantFault(t, x, jump(7*65536+api.MaxCode-1))
}
