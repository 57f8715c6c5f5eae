package gen

import "tiltyard/api"

// The instructions of the operators. Those of fixes are others only where
// numbers are computed.
var (
	plain = [...]int{
		api.OpAdd: api.DoAddI, api.OpSub: api.DoSubI, api.OpMul: api.DoMulI, api.OpDiv: api.DoDivI, api.OpMod: api.DoModI,
		api.OpEq: api.DoEq, api.OpNe: api.DoNe, api.OpLt: api.DoLt, api.OpLe: api.DoLe, api.OpGt: api.DoGt, api.OpGe: api.DoGe,
		api.OpNeg: api.DoNegI, api.OpNot: api.DoNot,
	}
	ofFixes = [...]int{
		api.OpAdd: api.DoAddF, api.OpSub: api.DoSubF, api.OpMul: api.DoMulF, api.OpDiv: api.DoDivF,
		api.OpNeg: api.DoNegF,
	}
)

func (w *writer) exprs(list []api.Expr) {
	for i := range list {
		w.expr(&list[i])
	}
}

func (w *writer) expr(e *api.Expr) {
	switch e.Op {
	case api.OpAnd:
		w.and(&e.Args[0], &e.Args[1])
		return
	case api.OpOr:
		w.or(&e.Args[0], &e.Args[1])
		return
	}
	w.exprs(e.Args)
	switch e.Kind {
	case api.ExprName:
		w.variable(api.DoLoad, api.DoGet, e.Place)
	case api.ExprIndex:
		w.do(api.DoAt, -1-e.Place)
	case api.ExprCall:
		w.call(e.Place)
	case api.ExprUnary, api.ExprBoth:
		w.operator(e.Op, e.Type)
	default:
		w.push(e.Num, e.Type)
	}
}

func (w *writer) and(left, right *api.Expr) {
	w.expr(left)
	otherwise := w.ahead(api.DoElse)
	w.expr(right)
	end := w.ahead(api.DoJump)
	otherwise()
	w.push(0, api.TyBool)
	end()
}

func (w *writer) or(left, right *api.Expr) {
	w.expr(left)
	otherwise := w.ahead(api.DoElse)
	w.push(1, api.TyBool)
	end := w.ahead(api.DoJump)
	otherwise()
	w.expr(right)
	end()
}

func (w *writer) call(place int) {
	switch {
	case place >= 0:
		w.do(api.DoCall, place)
	case place == api.PlaceToFix:
		w.do(api.DoToFix, 0)
	case place == api.PlaceToInt:
		w.do(api.DoToInt, 0)
	default:
		w.do(api.DoSys, -1-place)
	}
}

// operator goes by the type of the result: that of the operands where these are
// computed with, a bool where they are compared.
func (w *writer) operator(op, kind int) {
	if kind == api.TyFix {
		w.do(ofFixes[op], 0)
	} else {
		w.do(plain[op], 0)
	}
}
