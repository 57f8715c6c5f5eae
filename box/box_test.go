package box

import (
	"math/big"
	"math/rand"
	"slices"
	"testing"

	"tiltyard/api"
)

const (
	one  = api.One
	edge = 1 << 60
)

func v(x, y int) api.Vec { return api.Vec{X: x, Y: y} }

func at(x, y, r int) api.Box { return api.Box{At: v(x, y), R: r} }

func swapped(b api.Box) api.Box { return at(b.At.Y, b.At.X, b.R) }

func mirrored(b api.Box) api.Box { return at(-b.At.X, b.At.Y, b.R) }

func moved(b api.Box, by api.Vec) api.Box { return at(b.At.X+by.X, b.At.Y+by.Y, b.R) }

// goodBoxes have each number at its ends, or next to them.
func goodBoxes() []api.Box {
	var l []api.Box
	places := []int{0, 1, -1, 5 * one, edge - 1, edge, 1 - edge, -edge}
	for _, x := range places {
		for _, y := range places {
			for _, r := range []int{1, 2, one, api.MaxSide - 1, api.MaxSide} {
				l = append(l, at(x, y, r))
			}
		}
	}
	return l
}

// badBoxes have one number that may not be, or more.
func badBoxes() []api.Box {
	var l []api.Box
	for _, r := range []int{0, -1, -one, -api.MaxSide, api.MinInt, api.MaxSide + 1, edge, api.MaxInt} {
		l = append(l, at(0, 0, r), at(edge, -edge, r))
	}
	for _, n := range []int{edge + 1, -edge - 1, 2 * edge, -2 * edge, 4 * edge, api.MaxInt, api.MinInt + 1, api.MinInt} {
		l = append(l, at(n, 0, 1), at(0, n, 1), at(n, n, api.MaxSide), at(n, 0, 0))
	}
	return l
}

// badWays are not in the range that a way may have.
func badWays() []int {
	return []int{edge + 1, -edge - 1, 2 * edge, -2 * edge, api.MaxInt, api.MinInt + 1, api.MinInt}
}

// smallBox is one of a fixed list, so close to 0 that many of them overlap or touch.
func smallBox(r *rand.Rand, spread int) api.Box {
	return at(r.Intn(2*spread+1)-spread, r.Intn(2*spread+1)-spread, 1+r.Intn(4))
}

func smallBoxes(r *rand.Rand, most, spread int) []api.Box {
	var l []api.Box
	for range r.Intn(most + 1) {
		l = append(l, smallBox(r, spread))
	}
	return l
}

// anyBox is a good one of any size at any place.
func anyBox(r *rand.Rand) api.Box {
	number := func() int { return (r.Intn(2*edge+1) - edge) >> r.Intn(61) }
	return at(number(), number(), 1+r.Intn(api.MaxSide)>>r.Intn(41))
}

// exactGap is a gap by numbers without ends.
func exactGap(m, n, r, s int) int {
	d := new(big.Int).Sub(big.NewInt(int64(m)), big.NewInt(int64(n)))
	d.Abs(d).Sub(d, big.NewInt(int64(r))).Sub(d, big.NewInt(int64(s)))
	return int(d.Int64())
}

// share tells whether two boxes have a point, by going through the points of one.
func share(a, b api.Box) bool {
	in := func(n, at, r int) bool { return at-r <= n && n < at+r }
	for x := a.At.X - a.R; x < a.At.X+a.R; x++ {
		for y := a.At.Y - a.R; y < a.At.Y+a.R; y++ {
			if in(x, b.At.X, b.R) && in(y, b.At.Y, b.R) {
				return true
			}
		}
	}
	return false
}

// overlap is share, without a look at each point.
func overlap(a, b api.Box) bool {
	r := a.R + b.R
	x, y := a.At.X-b.At.X, a.At.Y-b.At.Y
	return -r < x && x < r && -r < y && y < r
}

func sign(n int) int {
	switch {
	case n < 0:
		return -1
	case n > 0:
		return 1
	}
	return 0
}

// ahead is a step of n along an axis.
func ahead(a api.Box, axis, n int) api.Box {
	if axis == 0 {
		return moved(a, v(n, 0))
	}
	return moved(a, v(0, n))
}

// stepped is Push one step after the other, until the next one would make a overlap a
// box that it did not overlap at first.
func stepped(a api.Box, axis, d int, l []api.Box) (int, int) {
	for way := 0; way != d; way += sign(d) {
		next := ahead(a, axis, way+sign(d))
		for i, b := range l {
			if overlap(next, b) && !overlap(a, b) {
				return way, i
			}
		}
	}
	return d, -1
}

func wantRight(t *testing.T, b api.Box, want api.Errno) {
	t.Helper()
	if e := Right(b); e != want {
		t.Errorf("Right(%v): %d, want %d", b, e, want)
	}
}

func wantGap(t *testing.T, a, b api.Box, x, y int, want api.Errno) {
	t.Helper()
	if gx, gy, e := Gap(a, b); gx != x || gy != y || e != want {
		t.Errorf("Gap(%v, %v): %d, %d, %d, want %d, %d, %d", a, b, gx, gy, e, x, y, want)
	}
}

func wantMeet(t *testing.T, a, b api.Box, want bool, wantE api.Errno) {
	t.Helper()
	if is, e := Meet(a, b); is != want || e != wantE {
		t.Errorf("Meet(%v, %v): %v, %d, want %v, %d", a, b, is, e, want, wantE)
	}
}

func wantHolds(t *testing.T, b api.Box, p api.Vec, want bool, wantE api.Errno) {
	t.Helper()
	if is, e := Holds(b, p); is != want || e != wantE {
		t.Errorf("Holds(%v, %v): %v, %d, want %v, %d", b, p, is, e, want, wantE)
	}
}

func wantPush(t *testing.T, a api.Box, axis, d int, l []api.Box, way, who int, want api.Errno) {
	t.Helper()
	if n, i, e := Push(a, axis, d, l); n != way || i != who || e != want {
		t.Errorf("Push(%v, %d, %d, %v): %d, %d, %d, want %d, %d, %d", a, axis, d, l, n, i, e, way, who, want)
	}
}

func wantGo(t *testing.T, a api.Box, by api.Vec, l []api.Box, way api.Vec, who [2]int, want api.Errno) {
	t.Helper()
	if n, i, e := Go(a, by, l); n != way || i != who || e != want {
		t.Errorf("Go(%v, %v, %v): %v, %v, %d, want %v, %v, %d", a, by, l, n, i, e, way, who, want)
	}
}

func TestErrorNumbers(t *testing.T) {
	if e := Right(at(0, 0, 0)); e != 60 {
		t.Error(e)
	}
	if _, _, e := Push(at(0, 0, 1), 2, 0, nil); e != 1 {
		t.Error(e)
	}
}

// P6.1

func TestRight(t *testing.T) {
	for _, b := range goodBoxes() {
		wantRight(t, b, api.OK)
	}
	for _, b := range badBoxes() {
		wantRight(t, b, api.ErrBox)
	}
}

func TestGap(t *testing.T) {
	a, b := at(0, 0, one), at(5*one, 0, one)
	wantGap(t, a, b, 3*one, -2*one, api.OK)
	wantGap(t, a, a, -2*one, -2*one, api.OK)
	wantGap(t, at(-4, 7, 1), at(3, -9, 2), 4, 13, api.OK)
	wantGap(t, at(0, 0, 1), at(2, -3, 1), 0, 1, api.OK)
	wantGap(t, at(-edge, -edge, 1), at(edge, edge, 1), 2*edge-2, 2*edge-2, api.OK)
	wantGap(t, at(-edge, 0, api.MaxSide), at(edge, 0, api.MaxSide), 2*edge-2*api.MaxSide, -2*api.MaxSide, api.OK)
	for _, a := range goodBoxes() {
		for _, b := range goodBoxes() {
			wantGap(t, a, b, exactGap(a.At.X, b.At.X, a.R, b.R), exactGap(a.At.Y, b.At.Y, a.R, b.R), api.OK)
		}
	}
	r := rand.New(rand.NewSource(1))
	for range 20000 {
		a, b := anyBox(r), anyBox(r)
		wantGap(t, a, b, exactGap(a.At.X, b.At.X, a.R, b.R), exactGap(a.At.Y, b.At.Y, a.R, b.R), api.OK)
	}
}

func TestMeet(t *testing.T) {
	a, b := at(0, 0, one), at(5*one, 0, one)
	wantMeet(t, a, b, false, api.OK)
	wantMeet(t, a, a, true, api.OK)
	// Boxes that touch do not overlap: along x, along y, at a corner.
	wantMeet(t, a, at(2*one, 0, one), false, api.OK)
	wantMeet(t, a, at(0, -2*one, one), false, api.OK)
	wantMeet(t, a, at(2*one, 2*one, one), false, api.OK)
	wantMeet(t, a, at(2*one-1, 0, one), true, api.OK)
	wantMeet(t, a, at(0, 1-2*one, one), true, api.OK)
	wantMeet(t, a, at(1-2*one, 2*one-1, one), true, api.OK)
	// One gap alone is not enough.
	wantMeet(t, a, at(2*one-1, 2*one, one), false, api.OK)
	wantMeet(t, a, at(2*one, 2*one-1, one), false, api.OK)
	wantMeet(t, at(0, 0, api.MaxSide), at(1, 1, 1), true, api.OK)
	wantMeet(t, at(-edge, edge, api.MaxSide), at(edge, edge, api.MaxSide), false, api.OK)
	wantMeet(t, at(edge, -edge, 1), at(edge-1, 1-edge, 1), true, api.OK)
}

func TestMeetByPoints(t *testing.T) {
	r := rand.New(rand.NewSource(2))
	for range 20000 {
		a, b := smallBox(r, 8), smallBox(r, 8)
		wantMeet(t, a, b, share(a, b), api.OK)
	}
}

func TestHolds(t *testing.T) {
	b := at(0, 0, one)
	wantHolds(t, b, v(0, 0), true, api.OK)
	wantHolds(t, b, v(one, -one), true, api.OK)
	wantHolds(t, b, v(-one, one), true, api.OK)
	wantHolds(t, b, v(one+1, 0), false, api.OK)
	wantHolds(t, b, v(-one-1, 0), false, api.OK)
	wantHolds(t, b, v(0, one+1), false, api.OK)
	wantHolds(t, b, v(0, -one-1), false, api.OK)
	wantHolds(t, at(7, -3, 2), v(9, -5), true, api.OK)
	wantHolds(t, at(7, -3, 2), v(10, -5), false, api.OK)
	// A point may be anywhere, even where the difference is no int.
	wantHolds(t, at(edge, 0, 1), v(edge+1, 0), true, api.OK)
	wantHolds(t, at(edge, edge, api.MaxSide), v(edge+api.MaxSide, edge-api.MaxSide), true, api.OK)
	for _, b := range goodBoxes() {
		wantHolds(t, b, b.At, true, api.OK)
		for _, far := range []int{api.MinInt, api.MinInt + 1, api.MaxInt - 1, api.MaxInt, b.At.X + b.R + 1, b.At.X - b.R - 1} {
			wantHolds(t, b, v(far, b.At.Y), false, api.OK)
		}
		for _, far := range []int{api.MinInt, api.MaxInt, b.At.Y + b.R + 1, b.At.Y - b.R - 1} {
			wantHolds(t, b, v(b.At.X, far), false, api.OK)
		}
	}
}

func TestBadBoxesRefused(t *testing.T) {
	good := at(0, 0, one)
	for _, bad := range badBoxes() {
		for _, p := range [][2]api.Box{{bad, good}, {good, bad}, {bad, bad}} {
			wantGap(t, p[0], p[1], 0, 0, api.ErrBox)
			wantMeet(t, p[0], p[1], false, api.ErrBox)
		}
		wantHolds(t, bad, bad.At, false, api.ErrBox)
		wantHolds(t, bad, v(0, 0), false, api.ErrBox)
	}
}

// P6.2

func TestPush(t *testing.T) {
	a, l := at(0, 0, one), []api.Box{at(5*one, 0, one)}
	wantPush(t, a, 0, 4*one, l, 3*one, 0, api.OK)
	wantPush(t, a, 0, 3*one+1, l, 3*one, 0, api.OK)
	wantPush(t, a, 0, 3*one, l, 3*one, -1, api.OK)
	wantPush(t, a, 0, -one, l, -one, -1, api.OK)
	wantPush(t, a, 0, -9*one, l, -9*one, -1, api.OK)
	wantPush(t, a, 1, one, l, one, -1, api.OK)
	wantPush(t, a, 0, edge, l, 3*one, 0, api.OK)
	wantPush(t, a, 0, edge, nil, edge, -1, api.OK)
	wantPush(t, a, 1, -edge, nil, -edge, -1, api.OK)
	// The same along y, and the other way.
	south := []api.Box{at(one, -5*one, one)}
	wantPush(t, a, 1, -4*one, south, -3*one, 0, api.OK)
	wantPush(t, a, 1, -3*one, south, -3*one, -1, api.OK)
	wantPush(t, a, 1, 4*one, south, 4*one, -1, api.OK)
	wantPush(t, a, 0, 4*one, south, 4*one, -1, api.OK)
}

func TestPushFromContact(t *testing.T) {
	a, l := at(0, 0, 2), []api.Box{at(4, 3, 2)}
	wantPush(t, a, 0, 1, l, 0, 0, api.OK)
	wantPush(t, a, 0, edge, l, 0, 0, api.OK)
	wantPush(t, a, 0, 0, l, 0, -1, api.OK)
	wantPush(t, a, 0, -1, l, -1, -1, api.OK)
	// Its gap along x is not negative, so that it is not in the way along y.
	wantPush(t, a, 1, 9, l, 9, -1, api.OK)
	// The other axis just misses, and just does not.
	wantPush(t, a, 0, 9, []api.Box{at(6, 4, 2)}, 9, -1, api.OK)
	wantPush(t, a, 0, 9, []api.Box{at(6, -4, 2)}, 9, -1, api.OK)
	wantPush(t, a, 0, 9, []api.Box{at(6, -3, 2)}, 2, 0, api.OK)
}

func TestPushOutOfOverlap(t *testing.T) {
	a, l := at(0, 0, 2), []api.Box{at(3, 0, 2)}
	for _, d := range []int{-9, -1, 0, 1, 9} {
		wantPush(t, a, 0, d, l, d, -1, api.OK)
		wantPush(t, a, 1, d, l, d, -1, api.OK)
		wantPush(t, a, 0, d, []api.Box{a}, d, -1, api.OK)
	}
	wantPush(t, a, 0, 9, []api.Box{at(3, 0, 2), at(7, 0, 1)}, 4, 1, api.OK)
}

func TestPushByZero(t *testing.T) {
	a := at(0, 0, 2)
	for _, b := range []api.Box{at(4, 0, 2), at(-4, 0, 2), at(0, 4, 2), at(0, -4, 2), at(9, 0, 2), a} {
		for axis := range 2 {
			wantPush(t, a, axis, 0, []api.Box{b}, 0, -1, api.OK)
		}
	}
}

func TestPushFirstOfSmallestGap(t *testing.T) {
	a := at(0, 0, one)
	near, far := at(5*one, 0, one), at(8*one, 0, one)
	wantPush(t, a, 0, 9*one, []api.Box{far, near, near}, 3*one, 1, api.OK)
	wantPush(t, a, 0, 9*one, []api.Box{near, far, near}, 3*one, 0, api.OK)
	wantPush(t, a, 0, 9*one, []api.Box{far, far}, 6*one, 0, api.OK)
	// The gap counts, not the center: the greater box is hit first.
	wantPush(t, a, 0, 9*one, []api.Box{at(5*one, 0, one), at(6*one, 0, 3*one)}, 2*one, 1, api.OK)
	// Equal gaps of boxes of other sizes.
	wantPush(t, a, 0, 9*one, []api.Box{at(6*one, 0, 2*one), at(5*one, 0, one)}, 3*one, 0, api.OK)
	// What is nearer, but behind or beside, does not count.
	wantPush(t, a, 0, 9*one, []api.Box{at(-2*one, 0, one), at(2*one, 2*one, one), far}, 6*one, 2, api.OK)
}

func TestPushAtTheEdges(t *testing.T) {
	wantPush(t, at(-edge, 0, 1), 0, edge, []api.Box{at(edge, 0, 1)}, edge, -1, api.OK)
	wantPush(t, at(-edge, 0, 1), 0, edge, []api.Box{at(1, 0, 1)}, edge-1, 0, api.OK)
	wantPush(t, at(-edge, 0, 1), 0, edge, []api.Box{at(2, 0, 1)}, edge, -1, api.OK)
	wantPush(t, at(0, edge, api.MaxSide), 1, -edge, []api.Box{at(0, 0, api.MaxSide)}, 2*api.MaxSide-edge, 0, api.OK)
	// Push does not ask where the box ends up.
	wantPush(t, at(edge, 0, 1), 0, edge, nil, edge, -1, api.OK)
	wantPush(t, at(0, -edge, 1), 1, -edge, nil, -edge, -1, api.OK)
}

func TestPushStepByStep(t *testing.T) {
	r := rand.New(rand.NewSource(3))
	for range 20000 {
		a, l := smallBox(r, 10), smallBoxes(r, 8, 16)
		axis, d := r.Intn(2), r.Intn(41)-20
		way, who := stepped(a, axis, d, l)
		wantPush(t, a, axis, d, l, way, who, api.OK)
	}
}

func TestPushRefuses(t *testing.T) {
	a, l := at(0, 0, one), []api.Box{at(5*one, 0, one)}
	for _, axis := range []int{2, -1, -2, 3, one, api.MaxInt, api.MinInt} {
		wantPush(t, a, axis, 0, nil, 0, 0, api.ErrArg)
		wantPush(t, a, axis, 4*one, l, 0, 0, api.ErrArg)
	}
	for _, d := range badWays() {
		wantPush(t, a, 0, d, nil, 0, 0, api.ErrArg)
		wantPush(t, a, 1, d, l, 0, 0, api.ErrArg)
		wantPush(t, a, 2, d, l, 0, 0, api.ErrArg)
	}
	for _, bad := range badBoxes() {
		wantPush(t, bad, 0, one, nil, 0, 0, api.ErrBox)
		wantPush(t, bad, 0, one, l, 0, 0, api.ErrBox)
		for _, with := range [][]api.Box{{bad}, {bad, l[0]}, {l[0], bad}, {l[0], bad, l[0]}} {
			wantPush(t, a, 0, 4*one, with, 0, 0, api.ErrBox)
			wantPush(t, a, 1, 0, with, 0, 0, api.ErrBox)
			// ErrBox is named first.
			wantPush(t, a, 2, 0, with, 0, 0, api.ErrBox)
			wantPush(t, a, -1, edge+1, with, 0, 0, api.ErrBox)
		}
		wantPush(t, bad, 2, edge+1, nil, 0, 0, api.ErrBox)
	}
}

// P6.3

func TestGo(t *testing.T) {
	a, l := at(0, 0, one), []api.Box{at(5*one, 0, one)}
	wantGo(t, a, v(4*one, one), l, v(3*one, one), [2]int{0, -1}, api.OK)
	wantGo(t, a, v(one, 4*one), l, v(one, 4*one), [2]int{-1, -1}, api.OK)
	wantGo(t, a, v(0, 0), l, v(0, 0), [2]int{-1, -1}, api.OK)
	wantGo(t, a, v(-one, one), nil, v(-one, one), [2]int{-1, -1}, api.OK)
	// y starts from where x has led: only from there is the second box in the way.
	wantGo(t, a, v(4*one, 9*one), []api.Box{at(5*one, 0, one), at(4*one, 6*one, one)}, v(3*one, 4*one), [2]int{0, 1}, api.OK)
	// x comes first: along y first, the box would be in the way.
	wantGo(t, a, v(4*one, 4*one), []api.Box{at(0, 4*one, one)}, v(4*one, 4*one), [2]int{-1, -1}, api.OK)
	wantGo(t, a, v(4*one, 4*one), []api.Box{at(4*one, 4*one, one)}, v(4*one, 2*one), [2]int{-1, 0}, api.OK)
	// Both are stopped, each by a box of its own: the one that it lies against along x is beside it along y.
	wantGo(t, at(0, 0, 1), v(-9, -9), []api.Box{at(-4, 0, 1), at(-2, -6, 1)}, v(-2, -4), [2]int{0, 1}, api.OK)
}

func TestGoIsTwoPushes(t *testing.T) {
	r := rand.New(rand.NewSource(4))
	for range 20000 {
		a, l := smallBox(r, 10), smallBoxes(r, 8, 16)
		by := v(r.Intn(41)-20, r.Intn(41)-20)
		x, first := stepped(a, 0, by.X, l)
		y, second := stepped(ahead(a, 0, x), 1, by.Y, l)
		wantGo(t, a, by, l, v(x, y), [2]int{first, second}, api.OK)
	}
}

func TestGoAtTheEdges(t *testing.T) {
	open := [2]int{-1, -1}
	wantGo(t, at(0, 0, 1), v(edge, -edge), nil, v(edge, -edge), open, api.OK)
	wantGo(t, at(-1, 1, 1), v(-edge+1, edge-1), nil, v(-edge+1, edge-1), open, api.OK)
	wantGo(t, at(edge, -edge, 1), v(-edge, edge), nil, v(-edge, edge), open, api.OK)
	wantGo(t, at(edge, 0, 1), v(0, 5), nil, v(0, 5), open, api.OK)
	// What would lead out is stopped at the edge by a box.
	wantGo(t, at(edge-8, 0, 1), v(9, 0), []api.Box{at(edge, 0, 1)}, v(6, 0), [2]int{0, -1}, api.OK)
}

func TestGoLeavesTheRange(t *testing.T) {
	none := [2]int{}
	wantGo(t, at(edge, 0, 1), v(1, 0), nil, v(0, 0), none, api.ErrBox)
	wantGo(t, at(-edge, 0, 1), v(-1, 0), nil, v(0, 0), none, api.ErrBox)
	wantGo(t, at(0, edge, 1), v(0, 1), nil, v(0, 0), none, api.ErrBox)
	wantGo(t, at(0, -edge, 1), v(0, -1), nil, v(0, 0), none, api.ErrBox)
	wantGo(t, at(1, 0, 1), v(edge, 0), nil, v(0, 0), none, api.ErrBox)
	wantGo(t, at(edge, edge, 1), v(edge, edge), nil, v(0, 0), none, api.ErrBox)
	wantGo(t, at(-edge, -edge, 1), v(-edge, -edge), []api.Box{at(edge, edge, 1)}, v(0, 0), none, api.ErrBox)
	// y is stopped, but x led out already.
	wantGo(t, at(edge, 0, 4), v(1, 9), []api.Box{at(edge, 9, 1)}, v(0, 0), none, api.ErrBox)
}

func TestGoRefuses(t *testing.T) {
	a, l := at(0, 0, one), []api.Box{at(5*one, 0, one)}
	none := [2]int{}
	for _, d := range badWays() {
		for _, by := range []api.Vec{v(d, 0), v(0, d), v(d, d), v(4*one, d)} {
			wantGo(t, a, by, nil, v(0, 0), none, api.ErrArg)
			wantGo(t, a, by, l, v(0, 0), none, api.ErrArg)
		}
		// ErrArg is named ahead of the end that is no box.
		wantGo(t, at(edge, 0, 1), v(1, d), nil, v(0, 0), none, api.ErrArg)
		wantGo(t, at(0, edge, 1), v(d, 1), nil, v(0, 0), none, api.ErrArg)
	}
	for _, bad := range badBoxes() {
		wantGo(t, bad, v(0, 0), l, v(0, 0), none, api.ErrBox)
		wantGo(t, bad, v(-1, -1), nil, v(0, 0), none, api.ErrBox)
		wantGo(t, bad, v(edge+1, 0), nil, v(0, 0), none, api.ErrBox)
		for _, with := range [][]api.Box{{bad}, {l[0], bad}} {
			wantGo(t, a, v(one, one), with, v(0, 0), none, api.ErrBox)
			wantGo(t, a, v(0, api.MinInt), with, v(0, 0), none, api.ErrBox)
		}
	}
}

// No sum wraps around, from whichever end the longest way starts.
func TestGoTheLongestWay(t *testing.T) {
	for _, a := range goodBoxes() {
		for _, by := range []api.Vec{v(edge, edge), v(-edge, edge), v(edge, -edge), v(-edge, -edge), v(edge, 0), v(0, -edge)} {
			end := moved(a, by)
			if Right(end) == api.OK {
				wantGo(t, a, by, nil, by, [2]int{-1, -1}, api.OK)
			} else {
				wantGo(t, a, by, nil, v(0, 0), [2]int{}, api.ErrBox)
			}
		}
	}
}

// P6.4

func TestArgumentsStay(t *testing.T) {
	r := rand.New(rand.NewSource(5))
	for range 500 {
		l := append(smallBoxes(r, 8, 16), at(1, 2, 3), at(4, 5, 6))
		before := slices.Clone(l)
		list := l[:len(l)-2]
		a := smallBox(r, 10)
		Push(a, r.Intn(2), r.Intn(41)-20, list)
		Go(a, v(r.Intn(41)-20, r.Intn(41)-20), list)
		if !slices.Equal(l, before) {
			t.Fatalf("%v became %v", before, l)
		}
	}
}

func TestNothingKept(t *testing.T) {
	a, l := at(0, 0, one), []api.Box{at(5*one, 0, one)}
	wantPush(t, a, 0, 9*one, l, 3*one, 0, api.OK)
	l[0] = at(7*one, 0, one)
	wantPush(t, a, 0, 9*one, l, 5*one, 0, api.OK)
	wantGo(t, a, v(9*one, 0), l, v(5*one, 0), [2]int{0, -1}, api.OK)
	_, who, _ := Go(a, v(9*one, 0), l)
	who[0] = 77
	wantGo(t, a, v(9*one, 0), l, v(5*one, 0), [2]int{0, -1}, api.OK)
	wantPush(t, a, 0, 9*one, nil, 9*one, -1, api.OK)
}

// P6.5

func TestGapIsSymmetricAndMoves(t *testing.T) {
	r := rand.New(rand.NewSource(6))
	for i := range 20000 {
		a, b := smallBox(r, 10), smallBox(r, 10)
		by := v(r.Intn(edge)-edge/2, r.Intn(edge)-edge/2)
		if i%2 == 0 {
			a, b, by = anyBox(r), anyBox(r), v(0, 0)
		}
		x, y, e := Gap(a, b)
		is, _ := Meet(a, b)
		if e != api.OK {
			t.Fatal(a, b, e)
		}
		for _, p := range [][2]api.Box{{b, a}, {moved(a, by), moved(b, by)}, {mirrored(a), mirrored(b)}} {
			wantGap(t, p[0], p[1], x, y, api.OK)
			wantMeet(t, p[0], p[1], is, api.OK)
		}
		wantGap(t, swapped(a), swapped(b), y, x, api.OK)
		wantMeet(t, swapped(a), swapped(b), is, api.OK)
		wantGap(t, mirrored(swapped(a)), mirrored(swapped(b)), y, x, api.OK)
		wantMeet(t, mirrored(swapped(a)), mirrored(swapped(b)), is, api.OK)
	}
}

// P6.6

func TestNoWayThrough(t *testing.T) {
	r := rand.New(rand.NewSource(7))
	for range 20000 {
		a, l := smallBox(r, 10), smallBoxes(r, 8, 16)
		axis, by := r.Intn(2), v(r.Intn(81)-40, r.Intn(81)-40)
		way, _, e := Push(a, axis, by.X, l)
		both, _, f := Go(a, by, l)
		if e != api.OK || f != api.OK {
			t.Fatal(a, l, e, f)
		}
		for _, b := range l {
			was, _ := Meet(a, b)
			pushed, _ := Meet(ahead(a, axis, way), b)
			gone, _ := Meet(moved(a, both), b)
			if !was && (pushed || gone) {
				t.Fatal(a, axis, by, b)
			}
		}
	}
}

// Nor does it end up behind a box, however far it is sent.
func TestNoWayBehind(t *testing.T) {
	for _, d := range []int{7, 100, one, edge} {
		wall := []api.Box{at(10, 0, 3)}
		wantPush(t, at(0, 2, 1), 0, d, wall, 6, 0, api.OK)
		wantPush(t, at(20, 2, 1), 0, -d, wall, -6, 0, api.OK)
		wantGo(t, at(0, 2, 1), v(d, 0), wall, v(6, 0), [2]int{0, -1}, api.OK)
	}
}

// P6.7

func TestAsFarAsPossible(t *testing.T) {
	r := rand.New(rand.NewSource(8))
	stops := 0
	for i := range 40000 {
		a, l := smallBox(r, 10), smallBoxes(r, 8, 16)
		axis, d := r.Intn(2), r.Intn(81)-40
		if i%2 == 0 {
			// Greater boxes, one of which is mostly in the way.
			a = at(r.Intn(one), r.Intn(one), 1+r.Intn(one))
			l = []api.Box{at(r.Intn(8*one)-4*one, r.Intn(one), 1+r.Intn(one))}
			d = r.Intn(16*one) - 8*one
		}
		way, who, e := Push(a, axis, d, l)
		if e != api.OK {
			t.Fatal(a, l, e)
		}
		if who < 0 {
			if way != d {
				t.Fatal(a, axis, d, l, way)
			}
			continue
		}
		stops++
		x, y, _ := Gap(ahead(a, axis, way), l[who])
		next, _ := Meet(ahead(a, axis, way+sign(d)), l[who])
		if [2]int{x, y}[axis] != 0 || !next || way == d {
			t.Fatal(a, axis, d, l, way, who)
		}
	}
	if stops < 1000 {
		t.Error(stops)
	}
}
