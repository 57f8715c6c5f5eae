package verify_test

import (
	"slices"
	"strings"

	"tiltyard/api"
	"tiltyard/image"
)

// names are those of the instructions; the first one is number 1.
func names() []string {
	return strings.Fields("Push Load Store Get Set At Put AddI SubI MulI DivI ModI NegI AddF SubF MulF DivF NegF Eq Ne Lt Le Gt Ge Not ToFix ToInt Jump Else Call Sys Ret Pop")
}

// kinds are the names of types; no type has none.
func kinds() []string { return []string{"", "int", "fix", "bool", "ent"} }

func kindsOf(types ...int) []string {
	l := []string{}
	for _, t := range types {
		if t != 0 {
			l = append(l, kinds()[t])
		}
	}
	return l
}

// row is one of the chapter's table.
type row struct{ instructions, pops, pushes string }

// rows are those of the instructions that have neither A nor B.
func rows() []row {
	return []row{
		{"AddI SubI MulI DivI ModI", "int int", "int"}, {"NegI", "int", "int"},
		{"AddF SubF MulF DivF", "fix fix", "fix"}, {"NegF", "fix", "fix"},
		{"Eq Ne", "t t", "bool"}, {"Lt Le Gt Ge", "n n", "bool"},
		{"Not", "bool", "bool"}, {"ToFix", "int", "fix"}, {"ToInt", "fix", "int"},
		{"Pop", "t", ""},
	}
}

// readings are what an instruction may pop: t and n have a type in each.
func readings(pops string) [][]string {
	l := [][]string{}
	for t, kind := range kinds() {
		reading := strings.ReplaceAll(pops, "t", kind)
		if pops != "t" && pops != "t t" {
			reading = pops
		}
		if t == api.TyInt || t == api.TyFix {
			reading = strings.ReplaceAll(reading, "n n", kind+" "+kind)
		}
		l = append(l, strings.Fields(reading))
	}
	return l[1:]
}

// model is the chapter's promises again, step by step: it tells the fault of an
// image, and of each function the stacks with which instructions were reached.
type model struct {
	x      api.Image
	stacks []map[int][]string
}

func newModel(x api.Image) (*model, api.Fault) {
	m := &model{x: x}
	if e := image.Right(x); e != api.OK {
		return m, api.Fault{Code: e, At: -1}
	}
	for k, f := range x.Fns {
		same := slices.IndexFunc(x.Fns, func(g api.Fn) bool { return g.Name == f.Name })
		back := slices.IndexFunc(api.Backs(), func(s api.Sys) bool { return s.Name == f.Name })
		if same < k || back >= 0 && (!slices.Equal(api.Backs()[back].Params, f.Params) || f.Result != 0) {
			return m, api.Fault{Code: api.ErrSlot, At: k * 65536}
		}
	}
	for k := range x.Fns {
		if f := m.verify(k); f.Code != api.OK {
			return m, f
		}
	}
	return m, api.Fault{}
}

func (m *model) verify(k int) api.Fault {
	code, base := m.x.Fns[k].Code, k*65536
	stacks, pending := map[int][]string{0: {}}, []int{0}
	m.stacks = append(m.stacks, stacks)
	if len(code) == 0 {
		return api.Fault{Code: api.ErrJump, At: base}
	}
	for len(pending) > 0 {
		slices.Sort(pending)
		at := pending[0]
		pending = pending[1:]
		i := code[at]
		isJump := i.Op == api.DoJump || i.Op == api.DoElse
		pops, pushes, ok := m.effect(k, i)
		if !ok && isJump {
			return api.Fault{Code: api.ErrJump, At: base + at}
		} else if !ok {
			return api.Fault{Code: api.ErrSlot, At: base + at}
		}
		stack, ok := after(stacks[at], pops, pushes)
		if !ok || i.Op == api.DoRet && len(stack) > 0 || len(stack) > api.MaxStack {
			return api.Fault{Code: api.ErrStack, At: base + at}
		}
		next := []int{at + 1}
		switch i.Op {
		case api.DoJump:
			next = []int{i.A}
		case api.DoElse:
			next = []int{i.A, at + 1}
		case api.DoRet:
			next = nil
		}
		for _, to := range next {
			recorded, there := stacks[to]
			if to == len(code) {
				return api.Fault{Code: api.ErrJump, At: base + at}
			} else if there && !slices.Equal(recorded, stack) {
				return api.Fault{Code: api.ErrStack, At: base + to}
			} else if !there {
				stacks[to], pending = stack, append(pending, to)
			}
		}
	}
	return api.Fault{}
}

// after is the stack behind an instruction with those readings.
func after(stack []string, readings [][]string, pushes []string) ([]string, bool) {
	for _, pops := range readings {
		rest := len(stack) - len(pops)
		if rest >= 0 && slices.Equal(stack[rest:], pops) {
			return append(slices.Clone(stack[:rest]), pushes...), true
		}
	}
	return nil, false
}

// effect tells the readings of what an instruction pops, and what it pushes, if A
// and B are as the table says.
func (m *model) effect(k int, i api.Instr) (pops [][]string, pushes []string, ok bool) {
	f, name := m.x.Fns[k], names()[i.Op-1]
	if name == "Push" {
		ok = i.B == api.TyInt || i.B == api.TyFix || i.B == api.TyBool && (i.A == 0 || i.A == 1) || i.B == api.TyEnt && i.A == 0
		return [][]string{{}}, kindsOf(i.B), ok
	}
	if i.B != 0 {
		return nil, nil, false
	}
	for _, r := range rows() {
		if slices.Contains(strings.Fields(r.instructions), name) {
			return readings(r.pops), strings.Fields(r.pushes), i.A == 0
		}
	}
	switch name {
	case "Load", "Store":
		if ok = i.A >= 0 && i.A < len(f.Locals); ok {
			pops, pushes = moved(name == "Load", nil, f.Locals[i.A])
		}
	case "Get", "Set":
		if ok = i.A >= 0 && i.A < len(m.x.Globs) && m.x.Globs[i.A].Size == 0; ok {
			pops, pushes = moved(name == "Get", nil, m.x.Globs[i.A].Type)
		}
	case "At", "Put":
		if ok = i.A >= 0 && i.A < len(m.x.Globs) && m.x.Globs[i.A].Size > 0; ok {
			pops, pushes = moved(name == "At", []string{"int"}, m.x.Globs[i.A].Type)
		}
	case "Jump":
		return [][]string{{}}, nil, i.A >= 0 && i.A < len(f.Code)
	case "Else":
		return [][]string{{"bool"}}, nil, i.A >= 0 && i.A < len(f.Code)
	case "Call":
		if ok = i.A >= 0 && i.A < len(m.x.Fns); ok {
			pops, pushes = [][]string{kindsOf(m.x.Fns[i.A].Params...)}, kindsOf(m.x.Fns[i.A].Result)
		}
	case "Sys":
		if ok = i.A >= 0 && i.A < len(api.Calls()); ok {
			pops, pushes = [][]string{kindsOf(api.Calls()[i.A].Params...)}, kindsOf(api.Calls()[i.A].Result)
		}
	case "Ret":
		return [][]string{kindsOf(f.Result)}, nil, i.A == 0
	}
	return pops, pushes, ok
}

// moved is what an instruction pops and pushes that reads or writes a variable.
func moved(reads bool, index []string, t int) ([][]string, []string) {
	if reads {
		return [][]string{index}, kindsOf(t)
	}
	return [][]string{append(index, kinds()[t])}, nil
}

// depth is the most values of the stacks of a function.
func (m *model) depth(k int) int {
	most := 0
	for _, stack := range m.stacks[k] {
		most = max(most, len(stack))
	}
	return most
}
