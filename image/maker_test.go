package image_test

import (
	"encoding/binary"
	"hash/crc32"
	"math/rand"
	"slices"
	"strings"
	"testing"

	"tiltyard/api"
	"tiltyard/gen"
	"tiltyard/parse"
)

// framed is bytes with their sum behind them.
func framed(b []byte) []byte {
	return binary.LittleEndian.AppendUint32(slices.Clone(b), crc32.ChecksumIEEE(b))
}

// inside is the bytes of an image without their sum, as the chapter tells them.
// It takes any image whose local variables begin with the parameters.
func inside(x api.Image) []byte {
	b := nums([]byte{84, 73, 76, 84}, len(x.Globs))
	for _, g := range x.Globs {
		b = binary.AppendVarint(nums(b, g.Type, g.Size), int64(g.Value))
	}
	b = nums(b, len(x.Fns))
	for _, f := range x.Fns {
		b = append(nums(b, len(f.Name)), f.Name...)
		b = nums(nums(b, len(f.Params)), f.Params...)
		others := f.Locals[len(f.Params):]
		b = nums(nums(b, f.Result, len(others)), others...)
		b = nums(b, len(f.Code))
		for _, i := range f.Code {
			b = nums(binary.AppendVarint(nums(b, i.Op), int64(i.A)), i.B)
		}
	}
	return b
}

func nums(b []byte, list ...int) []byte {
	for _, n := range list {
		b = binary.AppendUvarint(b, uint64(n))
	}
	return b
}

// maker makes valid images.
type maker struct{ *rand.Rand }

func newMaker(seed int64) maker { return maker{rand.New(rand.NewSource(seed))} }

func (r maker) image() api.Image {
	x := api.Image{}
	for range r.upTo(api.MaxVars) {
		x.Globs = append(x.Globs, r.glob())
	}
	for range r.upTo(api.MaxFuncs) {
		x.Fns = append(x.Fns, r.fn())
	}
	return x
}

// upTo is mostly few, but up to that many.
func (r maker) upTo(most int) int {
	if r.Intn(10) > 0 {
		most = min(most, 5)
	}
	return r.Intn(most + 1)
}

func (r maker) kind() int { return 1 + r.Intn(4) }

// number has any length and any sign.
func (r maker) number() int { return int(r.Uint64()) >> r.Intn(64) }

func (r maker) glob() api.Glob {
	g := api.Glob{Type: r.kind()}
	switch {
	case r.Intn(3) == 0:
		g.Size = 1 + r.Intn(api.MaxArray)
	case g.Type == api.TyBool:
		g.Value = r.Intn(2)
	case g.Type != api.TyEnt:
		g.Value = r.number()
	}
	return g
}

func (r maker) fn() api.Fn {
	f := api.Fn{Name: r.name(), Result: r.Intn(5)}
	for range r.upTo(api.MaxParams) {
		f.Params = append(f.Params, r.kind())
	}
	f.Locals = slices.Clone(f.Params)
	for range r.upTo(api.MaxLocals - len(f.Params)) {
		f.Locals = append(f.Locals, r.kind())
	}
	for range r.upTo(300) {
		f.Code = append(f.Code, api.Instr{Op: 1 + r.Intn(api.DoPop), A: r.number(), B: r.Intn(5)})
	}
	return f
}

func (r maker) name() string {
	const first = "abcdefghijklmnopqrstuvwxyz_"
	name := string(first[r.Intn(len(first))])
	for range r.Intn(api.MaxName) {
		name += string((first + "0123456789")[r.Intn(len(first)+10)])
	}
	if strings.Contains(" bool else ent false fix fn if int let null return true var while ", " "+name+" ") {
		return r.name()
	}
	return name
}

// someImages are images of all kinds, the same ones each time.
func someImages() []api.Image {
	l := []api.Image{{}}
	for seed := range int64(300) {
		l = append(l, newMaker(seed).image())
	}
	return l
}

// fromSource is the image of a mod.
func fromSource(t *testing.T, s string) api.Image {
	t.Helper()
	m, f := parse.Parse(s)
	x, e := gen.Gen(m)
	if f.Code != api.OK || e != api.OK {
		t.Fatalf("%q: %v, %v", s, f, e)
	}
	return x
}
