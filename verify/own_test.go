package verify_test

import (
	"slices"
	"testing"

	"tiltyard/api"
	"tiltyard/verify"
)

// P16.4

// spare is a list with something in its spare capacity.
func spare[T any](list []T, x T) []T {
	return append(append(make([]T, 0, len(list)+3), list...), x, x)[:len(list)]
}

func withSpares(x api.Image) api.Image {
	y := copied(x)
	y.Globs = spare(y.Globs, api.Glob{Type: 77})
	for k, f := range y.Fns {
		y.Fns[k].Params, y.Fns[k].Locals = spare(f.Params, 77), spare(f.Locals, 77)
		y.Fns[k].Code = spare(f.Code, api.Instr{Op: 77})
	}
	y.Fns = spare(y.Fns, api.Fn{Name: "spare"})
	return y
}

// sameSpares tells whether two images are the same, with what is in the spare
// capacity of their lists.
func sameSpares(x, y api.Image) bool {
	return slices.Equal(x.Globs[:len(x.Globs)+2], y.Globs[:len(y.Globs)+2]) &&
		slices.EqualFunc(x.Fns[:len(x.Fns)+2], y.Fns[:len(y.Fns)+2], func(f, g api.Fn) bool {
			return f.Name == g.Name && f.Result == g.Result &&
				slices.Equal(f.Params[:min(cap(f.Params), len(f.Params)+2)], g.Params[:min(cap(g.Params), len(g.Params)+2)]) &&
				slices.Equal(f.Locals[:min(cap(f.Locals), len(f.Locals)+2)], g.Locals[:min(cap(g.Locals), len(g.Locals)+2)]) &&
				slices.Equal(f.Code[:min(cap(f.Code), len(f.Code)+2)], g.Code[:min(cap(g.Code), len(g.Code)+2)])
		})
}

func TestImagesAreLeftAlone(t *testing.T) {
	for seed := range int64(100) {
		r := newMaker(seed)
		x := r.image()
		for _, given := range []api.Image{x, r.spoilt(x), r.spoilt(x)} {
			y, z := withSpares(given), withSpares(given)
			first := verify.Verify(y)
			verify.Depth(y, 0)
			if !sameSpares(y, z) {
				t.Errorf("%s has become %s", tell(z), tell(y))
			}
			// What is asked in between does not matter.
			verify.Verify(withCode("Push 1 int, Pop"))
			if again := verify.Verify(y); again != first {
				t.Errorf("Verify of %s: %v, then %v", tell(y), first, again)
			}
		}
	}
}

func TestImagesAreNotKept(t *testing.T) {
	x := withCode("Push 1 int, Pop, Ret")
	wantFault(t, x, ok())
	x.Fns[0].Code[1] = api.Instr{Op: api.DoNot}
	wantFault(t, x, stack(1))
	x.Fns[0].Code[1] = api.Instr{Op: api.DoPop}
	wantFault(t, x, ok())
}
