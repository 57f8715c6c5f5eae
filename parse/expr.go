package parse

import (
	"slices"

	"tiltyard/api"
)

func (p *parser) expr() api.Expr { return p.chain(p.and, "||") }

func (p *parser) and() api.Expr { return p.chain(p.comparison, "&&") }

// comparison takes one operator at most: a second one is left to whoever asked.
func (p *parser) comparison() api.Expr {
	left := p.sum()
	switch p.now().Text {
	case "==", "!=", "<", "<=", ">", ">=":
		return p.both(left, p.sum)
	}
	return left
}

func (p *parser) sum() api.Expr { return p.chain(p.term, "+", "-") }

func (p *parser) term() api.Expr { return p.chain(p.one, "*", "/", "%") }

// chain reads operands with any of the operators between them, the left ones
// together first.
func (p *parser) chain(operand func() api.Expr, operators ...string) api.Expr {
	left := operand()
	for slices.Contains(operators, p.now().Text) {
		left = p.both(left, operand)
	}
	return left
}

func (p *parser) both(left api.Expr, operand func() api.Expr) api.Expr {
	sign := p.take()
	right := operand()
	return api.Expr{Kind: api.ExprBoth, Op: operator(sign.Text), Args: []api.Expr{left, right}, At: sign.At}
}

func operator(text string) int {
	switch text {
	case "+":
		return api.OpAdd
	case "-":
		return api.OpSub
	case "*":
		return api.OpMul
	case "/":
		return api.OpDiv
	case "%":
		return api.OpMod
	case "==":
		return api.OpEq
	case "!=":
		return api.OpNe
	case "<":
		return api.OpLt
	case "<=":
		return api.OpLe
	case ">":
		return api.OpGt
	case ">=":
		return api.OpGe
	case "&&":
		return api.OpAnd
	}
	return api.OpOr
}

func (p *parser) one() api.Expr {
	switch p.now().Text {
	case "-":
		return p.unary(api.OpNeg)
	case "!":
		return p.unary(api.OpNot)
	}
	return p.atom()
}

func (p *parser) unary(op int) api.Expr {
	return nested(p, func() api.Expr {
		at := p.take().At
		return api.Expr{Kind: api.ExprUnary, Op: op, Args: []api.Expr{p.one()}, At: at}
	})
}

func (p *parser) atom() api.Expr {
	at := p.now().At
	switch p.now().Kind {
	case api.TokInt:
		return api.Expr{Kind: api.ExprInt, Num: p.whole(), At: at}
	case api.TokFix:
		return api.Expr{Kind: api.ExprFix, Num: p.fixed(), At: at}
	case api.TokName:
		return p.variableOrCall()
	}
	switch p.now().Text {
	case "(":
		return enclosed(p, "(", ")", p.expr)
	case "true", "false":
		return api.Expr{Kind: api.ExprBool, Num: p.truth(), At: at}
	}
	p.want("null")
	return api.Expr{Kind: api.ExprNull, At: at}
}

func (p *parser) variableOrCall() api.Expr {
	name := p.wantKind(api.TokName)
	switch p.now().Text {
	case "[":
		index := enclosed(p, "[", "]", p.expr)
		return api.Expr{Kind: api.ExprIndex, Name: name.Text, Args: []api.Expr{index}, At: name.At}
	case "(":
		return p.call(name)
	}
	return api.Expr{Kind: api.ExprName, Name: name.Text, At: name.At}
}

// call reads what follows the name of a function.
func (p *parser) call(name api.Token) api.Expr {
	args := enclosed(p, "(", ")", p.args)
	return api.Expr{Kind: api.ExprCall, Name: name.Text, Args: args, At: name.At}
}

func (p *parser) args() []api.Expr { return several(p, p.expr) }
