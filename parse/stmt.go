package parse

import "tiltyard/api"

func (p *parser) block() []api.Stmt {
	return enclosed(p, "{", "}", p.statements)
}

func (p *parser) statements() []api.Stmt {
	list := []api.Stmt{}
	for rule := p.statement(); rule != nil; rule = p.statement() {
		oneMore(len(list), api.MaxBody, p.now().At)
		list = append(list, rule())
	}
	return list
}

// statement answers the rule of the statement that begins with the next token,
// or nil: then it is not for this rule to say whether the token may stand here.
func (p *parser) statement() func() api.Stmt {
	switch p.now().Text {
	case "let":
		return p.let
	case "if":
		return p.choice
	case "while":
		return p.loop
	case "return":
		return p.result
	}
	if p.now().Kind == api.TokName {
		return p.named
	}
	return nil
}

func (p *parser) let() api.Stmt {
	s := api.Stmt{Kind: api.StmtLet, At: p.want("let").At}
	s.Name = p.wantKind(api.TokName).Text
	p.want(":")
	s.Type = p.scalar()
	p.want("=")
	s.Exprs = []api.Expr{p.expr()}
	p.want(";")
	return s
}

// named reads the three statements that begin with a name.
func (p *parser) named() api.Stmt {
	name := p.wantKind(api.TokName)
	s := api.Stmt{At: name.At}
	switch {
	case p.is("("):
		s.Kind = api.StmtCall
		s.Exprs = []api.Expr{p.call(name)}
	case p.is("["):
		s.Kind, s.Name = api.StmtPut, name.Text
		index := enclosed(p, "[", "]", p.expr)
		p.want("=")
		s.Exprs = []api.Expr{index, p.expr()}
	default:
		s.Kind, s.Name = api.StmtSet, name.Text
		p.want("=")
		s.Exprs = []api.Expr{p.expr()}
	}
	p.want(";")
	return s
}

func (p *parser) choice() api.Stmt {
	s := api.Stmt{Kind: api.StmtIf, At: p.want("if").At}
	s.Exprs = []api.Expr{p.expr()}
	s.Body = p.block()
	if p.skip("else") {
		s.Else = p.otherwise()
	}
	return s
}

func (p *parser) otherwise() []api.Stmt {
	if p.is("if") {
		return []api.Stmt{nested(p, p.choice)}
	}
	return p.block()
}

func (p *parser) loop() api.Stmt {
	s := api.Stmt{Kind: api.StmtWhile, At: p.want("while").At}
	s.Exprs = []api.Expr{p.expr()}
	s.Body = p.block()
	return s
}

func (p *parser) result() api.Stmt {
	s := api.Stmt{Kind: api.StmtReturn, At: p.want("return").At}
	if !p.is(";") {
		s.Exprs = []api.Expr{p.expr()}
	}
	p.want(";")
	return s
}
