package verify_test

import (
	"math/rand"
	"slices"
	"strconv"
	"strings"

	"tiltyard/api"
)

// maker makes images that may be run.
type maker struct {
	*rand.Rand
	x      api.Image
	fn     *api.Fn
	budget int // the values that there may be yet
}

func newMaker(seed int64) *maker { return &maker{Rand: rand.New(rand.NewSource(seed))} }

func (r *maker) chance(percent int) bool { return r.Intn(100) < percent }

func (r *maker) types(most int) []int {
	l := []int{}
	for range r.Intn(most + 1) {
		l = append(l, 1+r.Intn(4))
	}
	return l
}

func (r *maker) image() api.Image {
	for range r.Intn(8) {
		r.x.Globs = append(r.x.Globs, api.Glob{Type: 1 + r.Intn(4), Size: r.Intn(2) * r.Intn(4)})
	}
	for k := range 1 + r.Intn(4) {
		f := api.Fn{Name: "f" + strconv.Itoa(k), Params: r.types(3), Result: r.Intn(5)}
		f.Locals = append(slices.Clone(f.Params), r.types(4)...)
		r.x.Fns = append(r.x.Fns, f)
	}
	if back := api.Backs()[r.Intn(6)]; r.chance(40) {
		r.x.Fns = append(r.x.Fns, api.Fn{Name: back.Name, Params: back.Params, Locals: append(back.Params, r.types(3)...)})
	}
	for k := range r.x.Fns {
		r.write(k)
	}
	return r.x
}

// write writes the code of a function.
func (r *maker) write(k int) {
	r.fn, r.budget = &r.x.Fns[k], r.Intn(60)
	for range r.Intn(6) {
		r.stmt(3, true)
	}
	r.ret()
}

// do writes an instruction and answers its index.
func (r *maker) do(name string, a int) int {
	r.fn.Code = append(r.fn.Code, api.Instr{Op: 1 + slices.Index(names(), name), A: a})
	return len(r.fn.Code) - 1
}

// here makes the next instruction the target of a jump.
func (r *maker) here(jump int) { r.fn.Code[jump].A = len(r.fn.Code) }

func (r *maker) anything() api.Instr {
	return api.Instr{Op: 1 + r.Intn(33), A: r.Intn(30) - 5, B: r.Intn(2) * r.Intn(5)}
}

// junk writes instructions that are never reached, for they stand behind one
// that does not go on.
func (r *maker) junk() {
	for r.chance(30) {
		r.fn.Code = append(r.fn.Code, r.anything())
	}
}

func (r *maker) ret() {
	if r.fn.Result != 0 {
		r.value(r.fn.Result, 3)
	}
	r.do("Ret", 0)
	r.junk()
}

// stmt writes code that leaves the stack as it is. A function may end in it if
// there is nothing else on the stack.
func (r *maker) stmt(levels int, mayEnd bool) {
	kind := 1 + r.Intn(4)
	switch n := r.Intn(9); {
	case n == 0 && levels > 0:
		start := len(r.fn.Code)
		r.value(api.TyBool, levels-1)
		end := r.do("Else", 0)
		r.stmt(levels-1, mayEnd)
		r.do("Jump", start)
		r.junk()
		r.here(end)
	case n == 1 && levels > 0:
		r.value(api.TyBool, levels-1)
		other := r.do("Else", 0)
		r.stmt(levels-1, mayEnd)
		r.here(other)
	case n == 2 && len(r.fn.Locals) > 0:
		place := r.Intn(len(r.fn.Locals))
		r.value(r.fn.Locals[place], levels)
		r.do("Store", place)
	case n == 3 && len(r.x.Globs) > 0:
		r.assign(r.Intn(len(r.x.Globs)), levels)
	case n == 4 && mayEnd && r.chance(30):
		r.ret()
	case n == 5:
		over := r.do("Jump", 0)
		r.junk()
		r.here(over)
	case n == 6:
		r.call(0, levels)
	default:
		r.value(kind, levels)
		r.do("Pop", 0)
	}
}

func (r *maker) assign(place, levels int) {
	g := r.x.Globs[place]
	if g.Size == 0 {
		r.value(g.Type, levels)
		r.do("Set", place)
		return
	}
	r.value(api.TyInt, levels)
	r.value(g.Type, levels)
	r.do("Put", place)
}

// call writes one of a function with that result, which may be none.
func (r *maker) call(result, levels int) {
	for _, k := range r.Perm(16 + len(r.x.Fns)) {
		name, place, f := "Sys", k, api.Sys{}
		if k < 16 {
			f = api.Calls()[k]
		} else {
			name, place = "Call", k-16
			f = api.Sys{Params: r.x.Fns[place].Params, Result: r.x.Fns[place].Result}
		}
		if f.Result == result {
			for _, kind := range f.Params {
				r.value(kind, levels-1)
			}
			r.do(name, place)
			return
		}
	}
}

// value writes code that pushes a value of a type.
func (r *maker) value(kind, levels int) {
	r.budget--
	if levels <= 0 || r.budget < 0 {
		r.atom(kind)
		return
	}
	if r.chance(10) {
		r.stmt(levels-1, false)
	}
	switch n := r.Intn(6); {
	case n == 0:
		r.call(kind, levels)
	case n == 1:
		r.value(api.TyBool, levels-1)
		other := r.do("Else", 0)
		r.value(kind, levels-1)
		end := r.do("Jump", 0)
		r.junk()
		r.here(other)
		r.value(kind, levels-1)
		r.here(end)
	case n <= 4:
		r.operator(kind, levels)
	default:
		r.atom(kind)
	}
}

// operator writes one of the rows that push a value of a type.
func (r *maker) operator(kind, levels int) {
	for _, k := range r.Perm(len(rows())) {
		if row := rows()[k]; row.pushes == kinds()[kind] {
			choices := readings(row.pops)
			if row.pops == "n n" {
				choices = choices[:2] // the types of numbers come first
			}
			for _, name := range choices[r.Intn(len(choices))] {
				r.value(slices.Index(kinds(), name), levels-1)
			}
			instructions := strings.Fields(row.instructions)
			r.do(instructions[r.Intn(len(instructions))], 0)
			return
		}
	}
	r.atom(kind)
}

func (r *maker) atom(kind int) {
	if r.chance(50) {
		for _, k := range r.Perm(len(r.fn.Locals)) {
			if r.fn.Locals[k] == kind {
				r.do("Load", k)
				return
			}
		}
	}
	if r.chance(50) {
		for _, k := range r.Perm(len(r.x.Globs)) {
			if g := r.x.Globs[k]; g.Type == kind && g.Size == 0 {
				r.do("Get", k)
				return
			} else if g.Type == kind {
				r.do("Push", r.Intn(4))
				r.fn.Code[len(r.fn.Code)-1].B = api.TyInt
				r.do("At", k)
				return
			}
		}
	}
	value := []int{0, r.Int(), r.Int(), r.Intn(2), 0}[kind]
	r.do("Push", value)
	r.fn.Code[len(r.fn.Code)-1].B = kind
}

// copied is an image with lists of its own.
func copied(x api.Image) api.Image {
	y := api.Image{Globs: slices.Clone(x.Globs), Fns: slices.Clone(x.Fns)}
	for k, f := range y.Fns {
		y.Fns[k].Params, y.Fns[k].Locals, y.Fns[k].Code = slices.Clone(f.Params), slices.Clone(f.Locals), slices.Clone(f.Code)
	}
	return y
}

// spoilt is an image with a thing or two changed.
func (r *maker) spoilt(x api.Image) api.Image {
	y := copied(x)
	for range 1 + r.Intn(2) {
		f := &y.Fns[r.Intn(len(y.Fns))]
		if len(f.Code) == 0 {
			continue
		}
		at := r.Intn(len(f.Code))
		switch r.Intn(14) {
		case 0:
			f.Code[at] = r.anything()
		case 1, 2:
			f.Code[at].Op = 1 + r.Intn(33)
		case 3, 4:
			f.Code[at].A += r.Intn(7) - 3
		case 5:
			f.Code[at].B = r.Intn(5)
		case 6:
			f.Code = slices.Delete(f.Code, at, at+1)
		case 7:
			f.Code = slices.Insert(f.Code, at, r.anything())
		case 8:
			f.Code = f.Code[:at]
		case 9:
			f.Code[at] = api.Instr{Op: api.DoJump, A: r.Intn(len(f.Code) + 1)}
		case 10:
			f.Result = r.Intn(5)
		case 11:
			f.Locals = append(slices.Clone(f.Params), r.types(4)...)
		case 12:
			f.Name = []string{"f0", "tick", "join", "touch", ""}[r.Intn(5)]
		case 13:
			if len(y.Globs) > 0 {
				y.Globs[r.Intn(len(y.Globs))] = api.Glob{Type: r.Intn(6), Size: r.Intn(2)}
			}
		}
	}
	return y
}
