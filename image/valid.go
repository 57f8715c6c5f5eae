package image

import (
	"slices"

	"tiltyard/api"
	"tiltyard/token"
)

func valid(x api.Image) bool {
	return len(x.Globs) <= api.MaxVars && every(x.Globs, validGlob) &&
		len(x.Fns) <= api.MaxFuncs && every(x.Fns, validFn)
}

func every[T any](list []T, is func(T) bool) bool {
	for _, x := range list {
		if !is(x) {
			return false
		}
	}
	return true
}

func validGlob(g api.Glob) bool {
	return isType(g.Type) && g.Size >= 0 && g.Size <= api.MaxArray && validValue(g)
}

func validValue(g api.Glob) bool {
	switch {
	case g.Size != 0 || g.Type == api.TyEnt:
		return g.Value == 0
	case g.Type == api.TyBool:
		return g.Value == 0 || g.Value == 1
	}
	return true
}

func validFn(f api.Fn) bool {
	return token.Name(f.Name) && (f.Result == 0 || isType(f.Result)) && validLocals(f) &&
		len(f.Code) <= api.MaxCode && every(f.Code, validInstr)
}

func validLocals(f api.Fn) bool {
	params := len(f.Params)
	return params <= api.MaxParams && params <= len(f.Locals) && len(f.Locals) <= api.MaxLocals &&
		slices.Equal(f.Params, f.Locals[:params]) && every(f.Locals, isType)
}

func validInstr(i api.Instr) bool {
	return i.Op >= api.DoPush && i.Op <= api.DoPop && (i.B == 0 || isType(i.B))
}

func isType(n int) bool { return n >= api.TyInt && n <= api.TyEnt }
