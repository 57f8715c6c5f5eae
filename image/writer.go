package image

import (
	"tiltyard/api"
	"tiltyard/wire"
)

// magic is what the bytes of each image begin with.
const magic = "TILT"

// writer writes valid images: wire refuses none of their numbers and texts.
type writer struct{ b []byte }

// num writes a number from 0 on. Wire answers new memory each time: if it were
// given all the bytes so far, each number would cost as much as they do.
func (w *writer) num(n int) {
	b, _ := wire.Num(nil, n)
	w.b = append(w.b, b...)
}

func (w *writer) signed(n int) { w.b = append(w.b, wire.Int(nil, n)...) }

func (w *writer) text(s string) {
	b, _ := wire.Text(nil, s)
	w.b = append(w.b, b...)
}

// put writes the length of a list, and then its elements.
func put[T any](w *writer, list []T, element func(T)) {
	w.num(len(list))
	for _, x := range list {
		element(x)
	}
}

func (w *writer) image(x api.Image) {
	w.b = append(w.b, magic...)
	put(w, x.Globs, w.glob)
	put(w, x.Fns, w.fn)
}

func (w *writer) glob(g api.Glob) {
	w.num(g.Type)
	w.num(g.Size)
	w.signed(g.Value)
}

func (w *writer) fn(f api.Fn) {
	w.text(f.Name)
	put(w, f.Params, w.num)
	w.num(f.Result)
	put(w, f.Locals[len(f.Params):], w.num)
	put(w, f.Code, w.instr)
}

func (w *writer) instr(i api.Instr) {
	w.num(i.Op)
	w.signed(i.A)
	w.num(i.B)
}
