package image

import (
	"bytes"
	"slices"

	"tiltyard/api"
	"tiltyard/wire"
)

// notAnImage is thrown at the first thing in the bytes that is wrong.
type notAnImage struct{}

// need throws, unless what the bytes of an image need is so.
func need(is bool) {
	if !is {
		panic(notAnImage{})
	}
}

// reader reads what stands in a frame.
type reader struct {
	b  []byte
	at int
}

func opened(b []byte) *reader {
	inside, whole := wire.Open(b)
	need(whole)
	return &reader{b: inside}
}

func (r *reader) image() api.Image {
	need(bytes.HasPrefix(r.b, []byte(magic)))
	r.at = len(magic)
	x := api.Image{Globs: list(r, api.MaxVars, r.glob), Fns: list(r, api.MaxFuncs, r.fn)}
	need(r.at == len(r.b) && valid(x))
	return x
}

// list reads the length of a list, and then its elements. The length is held
// against the limit first, as bytes may tell any.
func list[T any](r *reader, most int, element func() T) []T {
	length := r.num()
	need(length <= most)
	l := make([]T, 0, length)
	for range length {
		l = append(l, element())
	}
	return l
}

func (r *reader) glob() api.Glob {
	return api.Glob{Type: r.num(), Size: r.num(), Value: r.signed()}
}

func (r *reader) fn() api.Fn {
	f := api.Fn{Name: r.text(), Params: list(r, api.MaxParams, r.num), Result: r.num()}
	f.Locals = slices.Concat(f.Params, list(r, api.MaxLocals, r.num))
	f.Code = list(r, api.MaxCode, r.instr)
	return f
}

func (r *reader) instr() api.Instr {
	return api.Instr{Op: r.num(), A: r.signed(), B: r.num()}
}

func (r *reader) num() int { return read(r, wire.ReadNum) }

func (r *reader) signed() int { return read(r, wire.ReadInt) }

func (r *reader) text() string { return read(r, wire.ReadText) }

// read reads as one of wire's functions does.
func read[T any](r *reader, one func(b []byte, at int) (T, int, api.Errno)) T {
	x, next, e := one(r.b, r.at)
	need(e == api.OK)
	r.at = next
	return x
}
