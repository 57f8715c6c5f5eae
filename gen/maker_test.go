package gen_test

import (
	"math/rand"
	"regexp"
	"strconv"
	"strings"
	"testing"

	"tiltyard/api"
)

// part is a part of a source, and its code as the tables of the chapter have it.
type part struct{ source, code string }

// variable is one that can be named: the instructions that read and write it.
type variable struct {
	name        string
	kind        int
	read, write string
}

// callable is a function that can be called: the instruction that does it.
type callable struct {
	api.Sys
	code string
}

// row is a row of a table of operators: $1 and $2 stand for the operands, which
// are of that type.
type row struct {
	source, code string
	operand      int
}

// maker makes sources together with their images. What stands in a source has
// blanks around it, where there may be any.
type maker struct {
	*rand.Rand
	prefix          string // of the names of variables
	scalars, arrays []variable
	calls           []callable
	locals          []int // the types of the function's local variables
	result          int   // the type of the function
	labels          int   // rows that have been taken so far
	budget          int   // the parts that there may be yet
}

var label = regexp.MustCompile(`\b[A-Z]\b`)

// row puts parts into a row of a table. The labels of the row become labels that
// no other one has.
func (r *maker) row(source, code string, parts ...part) part {
	r.labels++
	code = label.ReplaceAllString(code, "${0}"+strconv.Itoa(r.labels))
	for i, p := range parts {
		place := "$" + strconv.Itoa(i+1)
		source, code = strings.ReplaceAll(source, place, p.source), strings.ReplaceAll(code, place, p.code)
	}
	return part{source, code}
}

func (r *maker) chance(percent int) bool { return r.Intn(100) < percent }

func (r *maker) spend() bool {
	r.budget--
	return r.budget > 0
}

// pick answers one of a list for which fits is true, if there is one.
func pick[T any](r *maker, list []T, fits func(T) bool) (found T, ok bool) {
	for _, i := range r.Perm(len(list)) {
		if fits(list[i]) {
			return list[i], true
		}
	}
	return found, false
}

func ofKind(kind int) func(variable) bool {
	return func(v variable) bool { return v.kind == kind }
}

func newMaker(seed int64, prefix string) *maker {
	r := &maker{Rand: rand.New(rand.NewSource(seed)), prefix: prefix}
	for k, f := range api.Calls() {
		r.calls = append(r.calls, callable{f, "Sys " + strconv.Itoa(k)})
	}
	toFix := api.Sys{Name: "tofix", Params: []int{api.TyInt}, Result: api.TyFix}
	toInt := api.Sys{Name: "toint", Params: []int{api.TyFix}, Result: api.TyInt}
	r.calls = append(r.calls, callable{toFix, "ToFix"}, callable{toInt, "ToInt"})
	return r
}

func (r *maker) mod(t *testing.T) (string, api.Image) {
	x, s := api.Image{}, ""
	for k := range r.Intn(9) {
		text, glob := r.global(k)
		s += text
		x.Globs = append(x.Globs, glob)
	}
	fns := []api.Sys{}
	for k := range 1 + r.Intn(4) {
		f := api.Sys{Name: "f" + strconv.Itoa(k), Result: r.Intn(5)}
		for range r.Intn(4) {
			f.Params = append(f.Params, 1+r.Intn(4))
		}
		fns = append(fns, f)
		r.calls = append(r.calls, callable{f, "Call " + strconv.Itoa(k)})
	}
	for _, f := range fns {
		made := r.function(f)
		s += made.source
		x.Fns = append(x.Fns, api.Fn{Name: f.Name, Params: f.Params, Result: f.Result, Locals: r.locals, Code: assembled(t, made.code)})
	}
	return s, x
}

func (r *maker) global(k int) (string, api.Glob) {
	v := variable{name: r.prefix + "g" + strconv.Itoa(k), kind: 1 + r.Intn(4)}
	number := strconv.Itoa(k)
	if r.chance(40) {
		v.read, v.write = "At "+number, "Put "+number
		r.arrays = append(r.arrays, v)
		size := 1 + r.Intn(api.MaxArray)
		return "var " + v.name + " : [ " + strconv.Itoa(size) + " ] " + types()[v.kind] + " ; ", api.Glob{Type: v.kind, Size: size}
	}
	v.read, v.write = "Get "+number, "Set "+number
	r.scalars = append(r.scalars, v)
	values := [][]string{nil, {"5", "- 7"}, {"- 1.5", "0.25"}, {"true", "false"}, {"null", "null"}}
	numbers := [][]int{nil, {5, -7}, {-api.One * 3 / 2, api.One / 4}, {1, 0}, {0, 0}}
	i := r.Intn(2)
	return "var " + v.name + " : " + types()[v.kind] + " = " + values[v.kind][i] + " ; ", api.Glob{Type: v.kind, Value: numbers[v.kind][i]}
}

func (r *maker) function(f api.Sys) part {
	r.locals, r.result, r.budget = nil, f.Result, 5+r.Intn(80)
	globals := len(r.scalars)
	params := []string{}
	for _, kind := range f.Params {
		params = append(params, r.declare(kind)+" : "+types()[kind])
	}
	head := "fn " + f.Name + " ( " + strings.Join(params, " , ") + " ) "
	if f.Result != 0 {
		head += ": " + types()[f.Result] + " "
	}
	body := r.block(f.Result != 0, 4)
	r.scalars = r.scalars[:globals]
	if f.Result != 0 {
		return r.row(head+"{ $1} ", "$1, Push 0 "+types()[f.Result]+", Ret", body)
	}
	return r.row(head+"{ $1} ", "$1, Ret", body)
}

func (r *maker) declare(kind int) string {
	k := strconv.Itoa(len(r.locals))
	v := variable{r.prefix + "l" + k, kind, "Load " + k, "Store " + k}
	r.locals = append(r.locals, kind)
	r.scalars = append(r.scalars, v)
	return v.name
}

// block makes one that always returns, if it has to.
func (r *maker) block(end bool, levels int) part {
	visible, made := len(r.scalars), part{}
	for r.chance(75) && r.spend() {
		made = r.row("$1$2", "$1, $2", made, r.stmt(levels))
	}
	if end {
		made = r.row("$1$2", "$1, $2", made, r.ending(levels))
	}
	r.scalars = r.scalars[:visible]
	return made
}

func (r *maker) ending(levels int) part {
	if levels == 0 || r.chance(60) {
		return r.giveBack()
	}
	condition, body, other := r.expr(api.TyBool, 3), r.block(true, levels-1), r.block(true, levels-1)
	return r.row("if $1 { $2} else { $3} ", "$1, Else F, $2, Jump E, F: $3, E:", condition, body, other)
}

func (r *maker) giveBack() part {
	if r.result == 0 {
		return part{"return ; ", "Ret"}
	}
	return r.row("return $1 ; ", "$1, Ret", r.expr(r.result, 3))
}

func (r *maker) stmt(levels int) part {
	kind := 1 + r.Intn(4)
	switch n := r.Intn(10); {
	case n == 0 && len(r.locals) < api.MaxLocals:
		value, place := r.expr(kind, 3), strconv.Itoa(len(r.locals))
		return r.row("let "+r.declare(kind)+" : "+types()[kind]+" = $1 ; ", "$1, Store "+place, value)
	case n <= 3:
		if v, ok := pick(r, r.scalars, ofKind(kind)); ok {
			return r.row(v.name+" = $1 ; ", "$1, "+v.write, r.expr(kind, 3))
		}
	case n == 4:
		if v, ok := pick(r, r.arrays, ofKind(kind)); ok {
			return r.row(v.name+" [ $1 ] = $2 ; ", "$1, $2, "+v.write, r.expr(api.TyInt, 2), r.expr(kind, 2))
		}
	case n == 5:
		return r.giveBack()
	case n == 6 && levels > 0:
		return r.row("while $1 { $2} ", "L: $1, Else E, $2, Jump L, E:", r.expr(api.TyBool, 3), r.block(false, levels-1))
	case n <= 8 && levels > 0:
		return r.either(levels)
	}
	result := r.Intn(5)
	made := r.call(result, 2)
	if result != 0 {
		return r.row("$1 ; ", "$1, Pop", made)
	}
	return r.row("$1 ; ", "$1", made)
}

func (r *maker) either(levels int) part {
	condition, body := r.expr(api.TyBool, 3), r.block(false, levels-1)
	if r.chance(40) {
		return r.row("if $1 { $2} ", "$1, Else F, $2, F:", condition, body)
	}
	if r.chance(30) && levels > 1 {
		return r.row("if $1 { $2} else $3", "$1, Else F, $2, Jump E, F: $3, E:", condition, body, r.either(levels-1))
	}
	other := r.block(false, levels-1)
	if other.source == "" {
		return r.row("if $1 { $2} else { } ", "$1, Else F, $2, F:", condition, body)
	}
	return r.row("if $1 { $2} else { $3} ", "$1, Else F, $2, Jump E, F: $3, E:", condition, body, other)
}

func operators(kind int) []row {
	switch kind {
	case api.TyInt:
		return []row{
			{"- ( $1 )", "$1, NegI", kind}, {"( $1 ) + ( $2 )", "$1, $2, AddI", kind}, {"( $1 ) - ( $2 )", "$1, $2, SubI", kind},
			{"( $1 ) * ( $2 )", "$1, $2, MulI", kind}, {"( $1 ) / ( $2 )", "$1, $2, DivI", kind}, {"( $1 ) % ( $2 )", "$1, $2, ModI", kind},
		}
	case api.TyFix:
		return []row{
			{"- ( $1 )", "$1, NegF", kind}, {"( $1 ) + ( $2 )", "$1, $2, AddF", kind}, {"( $1 ) - ( $2 )", "$1, $2, SubF", kind},
			{"( $1 ) * ( $2 )", "$1, $2, MulF", kind}, {"( $1 ) / ( $2 )", "$1, $2, DivF", kind},
		}
	case api.TyBool:
		l := []row{
			{"! ( $1 )", "$1, Not", kind},
			{"( $1 ) && ( $2 )", "$1, Else F, $2, Jump E, F: Push 0 bool, E:", kind},
			{"( $1 ) || ( $2 )", "$1, Else B, Push 1 bool, Jump E, B: $2, E:", kind},
		}
		for operand := api.TyInt; operand <= api.TyEnt; operand++ {
			l = append(l, row{"( $1 ) == ( $2 )", "$1, $2, Eq", operand}, row{"( $1 ) != ( $2 )", "$1, $2, Ne", operand})
		}
		for _, operand := range []int{api.TyInt, api.TyFix} {
			l = append(l, row{"( $1 ) < ( $2 )", "$1, $2, Lt", operand}, row{"( $1 ) <= ( $2 )", "$1, $2, Le", operand})
			l = append(l, row{"( $1 ) > ( $2 )", "$1, $2, Gt", operand}, row{"( $1 ) >= ( $2 )", "$1, $2, Ge", operand})
		}
		return l
	}
	return nil
}

func (r *maker) expr(kind, levels int) part {
	if levels == 0 || r.chance(20) || !r.spend() {
		return r.atom(kind)
	}
	if r.chance(20) {
		return r.call(kind, levels-1)
	}
	if v, ok := pick(r, r.arrays, ofKind(kind)); ok && r.chance(25) {
		return r.row(v.name+" [ $1 ]", "$1, "+v.read, r.expr(api.TyInt, levels-1))
	}
	if op, ok := pick(r, operators(kind), func(row) bool { return true }); ok {
		return r.row(op.source, op.code, r.expr(op.operand, levels-1), r.expr(op.operand, levels-1))
	}
	return r.atom(kind)
}

func (r *maker) atom(kind int) part {
	if v, ok := pick(r, r.scalars, ofKind(kind)); ok && r.chance(60) {
		return part{v.name, v.read}
	}
	n := r.Intn(4)
	switch kind {
	case api.TyInt:
		return part{strconv.Itoa(n), "Push " + strconv.Itoa(n) + " int"}
	case api.TyFix:
		return part{strconv.Itoa(n) + ".5", "Push " + strconv.Itoa(n*api.One+api.One/2) + " fix"}
	case api.TyBool:
		return part{[]string{"false", "true"}[n/2], "Push " + strconv.Itoa(n/2) + " bool"}
	}
	return part{"null", "Push 0 ent"}
}

// call makes one of a function with that result, which may be none.
func (r *maker) call(result, levels int) part {
	f, _ := pick(r, r.calls, func(f callable) bool { return f.Result == result })
	args, code := []string{}, ""
	for _, kind := range f.Params {
		arg := r.expr(kind, levels)
		args, code = append(args, arg.source), code+arg.code+", "
	}
	return part{f.Name + " ( " + strings.Join(args, " , ") + " )", code + f.code}
}
