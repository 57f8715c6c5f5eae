package verify

import (
	"strings"

	"tiltyard/api"
)

// effect is what an instruction pops and pushes: a letter for each type, the top
// of the stack last. In pops, t is any one type and n is int or fix; each of them
// is the same type throughout.
type effect struct{ pops, pushes string }

const letters = "ifbe"

// plain are the effects of the instructions that have no operands.
var plain = [...]effect{
	api.DoAddI:  {"ii", "i"},
	api.DoSubI:  {"ii", "i"},
	api.DoMulI:  {"ii", "i"},
	api.DoDivI:  {"ii", "i"},
	api.DoModI:  {"ii", "i"},
	api.DoNegI:  {"i", "i"},
	api.DoAddF:  {"ff", "f"},
	api.DoSubF:  {"ff", "f"},
	api.DoMulF:  {"ff", "f"},
	api.DoDivF:  {"ff", "f"},
	api.DoNegF:  {"f", "f"},
	api.DoEq:    {"tt", "b"},
	api.DoNe:    {"tt", "b"},
	api.DoLt:    {"nn", "b"},
	api.DoLe:    {"nn", "b"},
	api.DoGt:    {"nn", "b"},
	api.DoGe:    {"nn", "b"},
	api.DoNot:   {"b", "b"},
	api.DoToFix: {"i", "f"},
	api.DoToInt: {"f", "i"},
	api.DoPop:   {"t", ""},
}

// spelt are the letters of types. None, as the type of a result, has no letter.
func spelt(types ...int) string {
	s := ""
	for _, t := range types {
		if t != 0 {
			s += letters[t-1 : t]
		}
	}
	return s
}

// on is the stack that an instruction makes of a stack, if that has what is popped.
func (e effect) on(stack string) (string, bool) {
	pops := e.pops
	if stack != "" {
		top := stack[len(stack)-1:]
		pops = strings.ReplaceAll(pops, "t", top)
		if top == "i" || top == "f" {
			pops = strings.ReplaceAll(pops, "n", top)
		}
	}
	rest, ok := strings.CutSuffix(stack, pops)
	return rest + e.pushes, ok
}
