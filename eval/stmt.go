package eval

import "tiltyard/api"

// frame is a function that is being executed.
type frame struct {
	*run
	locals []int
	result int
}

// variable is a local one or one of the mod, as check places them.
func (f *frame) variable(place int) *int {
	if place >= 0 {
		return &f.locals[place]
	}
	return &f.state[-1-place][0]
}

func (f *frame) element(place, index int) *int {
	elements := f.state[-1-place]
	if index < 0 || index >= len(elements) {
		panic(trap(api.TrapIndex))
	}
	return &elements[index]
}

// block tells, as all that execute statements, whether the function has ended.
func (f *frame) block(list []api.Stmt) bool {
	for i := range list {
		if f.stmt(&list[i]) {
			return true
		}
	}
	return false
}

func (f *frame) stmt(s *api.Stmt) bool {
	switch s.Kind {
	case api.StmtLet, api.StmtSet:
		value := f.paid(&s.Exprs[0])
		*f.variable(s.Place) = value
	case api.StmtPut:
		index := f.value(&s.Exprs[0])
		value := f.paid(&s.Exprs[1])
		*f.element(s.Place, index) = value
	case api.StmtCall:
		f.callAlone(&s.Exprs[0])
	case api.StmtIf:
		return f.either(s)
	case api.StmtWhile:
		return f.repeat(s)
	case api.StmtReturn:
		f.giveBack(s)
		return true
	}
	return false
}

func (f *frame) callAlone(e *api.Expr) {
	f.call(e)
	if e.Type != 0 {
		f.spend()
	}
}

func (f *frame) either(s *api.Stmt) bool {
	if f.paid(&s.Exprs[0]) == 0 {
		return f.block(s.Else)
	}
	if f.block(s.Body) {
		return true
	}
	if len(s.Else) > 0 {
		f.spend()
	}
	return false
}

func (f *frame) repeat(s *api.Stmt) bool {
	for f.paid(&s.Exprs[0]) != 0 {
		if f.block(s.Body) {
			return true
		}
		f.spend()
	}
	return false
}

func (f *frame) giveBack(s *api.Stmt) {
	if len(s.Exprs) > 0 {
		f.result = f.value(&s.Exprs[0])
	}
	f.spend()
}
