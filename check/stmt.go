package check

import "tiltyard/api"

func (c *checker) block(list []api.Stmt) {
	c.enter()
	for i := range list {
		c.stmt(&list[i])
	}
	c.leave()
}

func (c *checker) stmt(s *api.Stmt) {
	switch s.Kind {
	case api.StmtLet:
		c.let(s)
	case api.StmtSet:
		c.set(s)
	case api.StmtPut:
		c.put(s)
	case api.StmtIf, api.StmtWhile:
		c.condition(&s.Exprs[0])
		c.block(s.Body)
		c.block(s.Else)
	case api.StmtReturn:
		c.giveBack(s)
	case api.StmtCall:
		c.call(&s.Exprs[0])
	}
}

func (c *checker) let(s *api.Stmt) {
	c.typed(&s.Exprs[0], s.Type, s.At)
	c.needNew(s.Name, s.At)
	c.need(len(c.locals) < api.MaxLocals, api.ErrCount, s.At)
	s.Place = c.local(s.Name, s.Type)
}

func (c *checker) set(s *api.Stmt) {
	v := c.named(s.Name, sortScalar, s.At)
	s.Place = v.place
	c.typed(&s.Exprs[0], v.kind, s.At)
}

func (c *checker) put(s *api.Stmt) {
	array := c.named(s.Name, sortArray, s.At)
	s.Place = array.place
	c.index(&s.Exprs[0])
	c.typed(&s.Exprs[1], array.kind, s.At)
}

func (c *checker) giveBack(s *api.Stmt) {
	c.need((len(s.Exprs) > 0) == (c.result != 0), api.ErrReturn, s.At)
	for i := range s.Exprs {
		c.typed(&s.Exprs[i], c.result, s.At)
	}
}

func alwaysReturns(list []api.Stmt) bool {
	if len(list) == 0 {
		return false
	}
	last := list[len(list)-1]
	switch last.Kind {
	case api.StmtReturn:
		return true
	case api.StmtIf:
		return alwaysReturns(last.Body) && alwaysReturns(last.Else)
	}
	return false
}
