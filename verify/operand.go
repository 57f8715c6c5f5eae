package verify

import "tiltyard/api"

// effect tells what an instruction of the function pops and pushes, if A and B
// are such as it may have.
func (w *walk) effect(i api.Instr) (effect, bool) {
	if i.B != 0 && i.Op != api.DoPush {
		return effect{}, false
	}
	switch i.Op {
	case api.DoPush:
		return effect{pushes: spelt(i.B)}, isValue(i.A, i.B)
	case api.DoLoad, api.DoStore:
		return w.local(i)
	case api.DoGet, api.DoSet:
		return w.variable(i)
	case api.DoAt, api.DoPut:
		return w.array(i)
	case api.DoJump:
		return effect{}, within(i.A, len(w.fn.Code))
	case api.DoElse:
		return effect{pops: "b"}, within(i.A, len(w.fn.Code))
	case api.DoCall, api.DoSys:
		return w.call(i)
	case api.DoRet:
		return effect{pops: spelt(w.fn.Result)}, i.A == 0
	}
	return plain[i.Op], i.A == 0
}

// isValue tells whether that may be pushed as a value of a type.
func isValue(value, kind int) bool {
	switch kind {
	case api.TyInt, api.TyFix:
		return true
	case api.TyBool:
		return value == 0 || value == 1
	case api.TyEnt:
		return value == 0
	}
	return false
}

func (w *walk) local(i api.Instr) (effect, bool) {
	if !within(i.A, len(w.fn.Locals)) {
		return effect{}, false
	}
	t := spelt(w.fn.Locals[i.A])
	if i.Op == api.DoLoad {
		return effect{"", t}, true
	}
	return effect{t, ""}, true
}

func (w *walk) variable(i api.Instr) (effect, bool) {
	if !within(i.A, len(w.image.Globs)) || w.image.Globs[i.A].Size > 0 {
		return effect{}, false
	}
	t := spelt(w.image.Globs[i.A].Type)
	if i.Op == api.DoGet {
		return effect{"", t}, true
	}
	return effect{t, ""}, true
}

func (w *walk) array(i api.Instr) (effect, bool) {
	if !within(i.A, len(w.image.Globs)) || w.image.Globs[i.A].Size == 0 {
		return effect{}, false
	}
	t := spelt(w.image.Globs[i.A].Type)
	if i.Op == api.DoAt {
		return effect{"i", t}, true
	}
	return effect{"i" + t, ""}, true
}

func (w *walk) call(i api.Instr) (effect, bool) {
	switch {
	case i.Op == api.DoCall && within(i.A, len(w.image.Fns)):
		f := w.image.Fns[i.A]
		return effect{spelt(f.Params...), spelt(f.Result)}, true
	case i.Op == api.DoSys && within(i.A, len(w.calls)):
		f := w.calls[i.A]
		return effect{spelt(f.Params...), spelt(f.Result)}, true
	}
	return effect{}, false
}
