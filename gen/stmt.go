package gen

import "tiltyard/api"

func (w *writer) block(list []api.Stmt) {
	for i := range list {
		w.stmt(&list[i])
	}
}

func (w *writer) stmt(s *api.Stmt) {
	start := len(w.Code)
	w.exprs(s.Exprs)
	switch s.Kind {
	case api.StmtLet, api.StmtSet:
		w.variable(api.DoStore, api.DoSet, s.Place)
	case api.StmtPut:
		w.do(api.DoPut, -1-s.Place)
	case api.StmtCall:
		if s.Exprs[0].Type != 0 {
			w.do(api.DoPop, 0)
		}
	case api.StmtReturn:
		w.do(api.DoRet, 0)
	case api.StmtIf:
		w.either(s)
	case api.StmtWhile:
		w.repeat(s.Body, start)
	}
}

// either writes an if behind its condition.
func (w *writer) either(s *api.Stmt) {
	otherwise := w.ahead(api.DoElse)
	w.block(s.Body)
	if len(s.Else) == 0 {
		otherwise()
		return
	}
	end := w.ahead(api.DoJump)
	otherwise()
	w.block(s.Else)
	end()
}

// repeat writes a while behind its condition, which begins at start.
func (w *writer) repeat(body []api.Stmt, start int) {
	end := w.ahead(api.DoElse)
	w.block(body)
	w.do(api.DoJump, start)
	end()
}
