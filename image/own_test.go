package image_test

import (
	"bytes"
	"slices"
	"testing"

	"tiltyard/api"
	"tiltyard/image"
)

// P15.3

// wider is a copy of a list, with something in its spare capacity.
func wider[T any](list []T, spare T) []T {
	return append(slices.Clone(list), spare, spare)[:len(list)]
}

// widened is a copy of an image that shares nothing with it.
func widened(x api.Image) api.Image {
	w := api.Image{Globs: wider(x.Globs, api.Glob{Type: 1}), Fns: wider(x.Fns, api.Fn{Name: "spare"})}
	for i, f := range w.Fns {
		w.Fns[i].Params, w.Fns[i].Locals = wider(f.Params, 1), wider(f.Locals, 2)
		w.Fns[i].Code = wider(f.Code, api.Instr{Op: api.DoPop})
	}
	return w
}

// whole is an image as text, with all that is in the spare capacity of its lists.
func whole(x api.Image) string {
	s := tell(x.Globs[:cap(x.Globs)]) + tell(x.Fns[:cap(x.Fns)])
	for _, f := range x.Fns {
		s += tell(f.Params[:cap(f.Params)]) + tell(f.Locals[:cap(f.Locals)]) + tell(f.Code[:cap(f.Code)])
	}
	return s
}

// overwrite fills a list, with its spare capacity.
func overwrite[T any](list []T, with T) {
	list = list[:cap(list)]
	for i := range list {
		list[i] = with
	}
}

// overwrites are functions that overwrite a list of an image each.
func overwrites(x api.Image) []func() {
	l := []func(){
		func() { overwrite(x.Globs, api.Glob{Type: 99}) },
		func() { overwrite(x.Fns, api.Fn{Name: "other"}) },
	}
	for _, f := range x.Fns {
		l = append(l,
			func() { overwrite(f.Params, 99) },
			func() { overwrite(f.Locals, 99) },
			func() { overwrite(f.Code, api.Instr{Op: 99}) },
		)
	}
	return l
}

func ownImages(t *testing.T) []api.Image {
	return append(someImages()[:40], theWhole(t))
}

func TestImagesAreLeftAlone(t *testing.T) {
	invalid := theWhole(t)
	invalid.Fns[1].Name = ""
	for _, x := range append(ownImages(t), invalid) {
		given := widened(x)
		before := whole(given)
		image.Right(given)
		b, e := image.Encode(given)
		c, again := image.Encode(given)
		if after := whole(given); after != before {
			t.Errorf("%s has become %s", short(before), short(after))
		}
		if !bytes.Equal(b, c) || e != again {
			t.Errorf("%s: %v, %v, then %v, %v", short(before), b, e, c, again)
		}
		// Whatever becomes of the image, and of other bytes, these stay as they are.
		overwrite(c, 99)
		for _, over := range overwrites(given) {
			over()
		}
		if want := framed(inside(x)); e == api.OK && !bytes.Equal(b, want) {
			t.Errorf("the bytes of %s share memory", short(before))
		}
	}
}

func TestBytesAreLeftAlone(t *testing.T) {
	for _, x := range ownImages(t) {
		given := framed(inside(x))
		before := append(slices.Clone(given), "spare"...)
		wide := slices.Clone(before)
		y, _ := image.Decode(wide[:len(given)])
		z, _ := image.Decode(wide[:len(given)])
		if !bytes.Equal(wide, before) {
			t.Errorf("Decode has changed %s", short(tell(given)))
		}
		// Whatever becomes of the bytes, and of another image, this one stays as it is.
		overwrite(wide, 99)
		for _, over := range overwrites(z) {
			over()
		}
		if tell(y) != tell(x) {
			t.Errorf("an image shares memory: %s has become %s", short(tell(x)), short(tell(y)))
		}
	}
}

func TestListsAreApart(t *testing.T) {
	for _, x := range ownImages(t) {
		for k := range overwrites(x) {
			y, _ := image.Decode(framed(inside(x)))
			want := widened(x)
			overwrites(y)[k]()
			overwrites(want)[k]()
			if tell(y) != tell(want) {
				t.Errorf("with its %d-th list overwritten %s is %s", k, short(tell(x)), short(tell(y)))
			}
		}
	}
}
