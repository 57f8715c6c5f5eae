package vec

import (
	"math/big"
	"math/rand"
	"testing"

	"tiltyard/api"
	"tiltyard/fix"
)

const one = api.One

func v(x, y int) api.Vec { return api.Vec{X: x, Y: y} }

// edges are the numbers at which lengths, signs and whole parts change, and their neighbours.
func edges() []int {
	l := []int{0, 2, -2, 3, -4, api.MinInt, api.MinInt + 1, api.MaxInt - 1, api.MaxInt, 3 * one, -one / 3}
	for _, shift := range []int{0, 31, 32, 62} {
		for d := -1; d <= 1; d++ {
			l = append(l, 1<<shift+d, -1<<shift+d)
		}
	}
	return l
}

// someVecs are all edges with each other, and a fixed list of numbers of all sizes.
func someVecs(count int, seed int64) []api.Vec {
	var l []api.Vec
	for _, x := range edges() {
		for _, y := range edges() {
			l = append(l, v(x, y))
		}
	}
	r := rand.New(rand.NewSource(seed))
	for range count {
		l = append(l, v(int(r.Uint64())>>r.Intn(64), int(r.Uint64())>>r.Intn(64)))
	}
	return l
}

// pairs hold each edge against each other one in both components, as well as some numbers
// and some that are close to each other.
func pairs() [][2]api.Vec {
	var l [][2]api.Vec
	for _, a := range someVecs(0, 0) {
		l = append(l, [2]api.Vec{v(a.X, 0), v(a.Y, 0)}, [2]api.Vec{v(0, a.X), v(0, a.Y)}, [2]api.Vec{a, v(a.Y, a.X)}, [2]api.Vec{a, a})
	}
	left, right := someVecs(5000, 1), someVecs(5000, 2)
	r := rand.New(rand.NewSource(3))
	for i, a := range left {
		l = append(l, [2]api.Vec{a, right[r.Intn(len(right))]}, [2]api.Vec{a, right[i]})
		l = append(l, [2]api.Vec{a, v(a.X^r.Intn(8), a.Y^r.Intn(8))})
	}
	return l
}

func whole(n int) *big.Int { return big.NewInt(int64(n)) }

// exactLong is Long by numbers without ends.
func exactLong(a api.Vec) int {
	x, y := whole(a.X), whole(a.Y)
	sum := x.Mul(x, x)
	sum.Add(sum, y.Mul(y, y))
	root := sum.Sqrt(sum)
	if !root.IsInt64() {
		return api.MaxInt
	}
	return int(root.Int64())
}

// exactApart is how far two numbers are apart, without ends.
func exactApart(m, n int) *big.Int {
	d := new(big.Int).Sub(whole(m), whole(n))
	return d.Abs(d)
}

func exactNear(a, b api.Vec, r int) bool {
	return r >= 0 && exactApart(a.X, b.X).Cmp(whole(r)) <= 0 && exactApart(a.Y, b.Y).Cmp(whole(r)) <= 0
}

// exactMiddle rounds down: Rsh of a negative number does.
func exactMiddle(m, n int) int {
	sum := new(big.Int).Add(whole(m), whole(n))
	return int(sum.Rsh(sum, 1).Int64())
}

// size is the absolute value, or MaxInt if that is above it.
func size(n int) int {
	if n == api.MinInt {
		return api.MaxInt
	}
	return max(n, -n)
}

func wantVec(t *testing.T, call string, got, want api.Vec) {
	t.Helper()
	if got != want {
		t.Errorf("%s: %v, want %v", call, got, want)
	}
}

func wantDot(t *testing.T, a, b api.Vec, want int) {
	t.Helper()
	if got := Dot(a, b); got != want {
		t.Errorf("Dot(%v, %v): %d, want %d", a, b, got, want)
	}
}

func wantLong(t *testing.T, a api.Vec, want int) {
	t.Helper()
	if got := Long(a); got != want {
		t.Errorf("Long(%v): %d, want %d", a, got, want)
	}
}

func wantClamp(t *testing.T, a api.Vec, most int, want api.Vec, e api.Errno) {
	t.Helper()
	if got, gotE := Clamp(a, most); got != want || gotE != e {
		t.Errorf("Clamp(%v, %d): %v, %d, want %v, %d", a, most, got, gotE, want, e)
	}
}

func wantNear(t *testing.T, a, b api.Vec, r int, want bool) {
	t.Helper()
	if got := Near(a, b, r); got != want {
		t.Errorf("Near(%v, %v, %d): %v", a, b, r, got)
	}
}

func TestErrorNumber(t *testing.T) {
	if _, e := Clamp(v(0, 0), -1); e != 1 {
		t.Error(e)
	}
}

// P5.1

func TestAdd(t *testing.T) {
	wantVec(t, "Add", Add(v(1, api.MaxInt), v(2, 1)), v(3, api.MaxInt))
	wantVec(t, "Add", Add(v(5, -7), v(-9, 3)), v(-4, -4))
	wantVec(t, "Add", Add(v(api.MinInt, api.MinInt), v(-1, api.MaxInt)), v(api.MinInt, -1))
	for _, p := range pairs() {
		wantVec(t, "Add", Add(p[0], p[1]), v(fix.Add(p[0].X, p[1].X), fix.Add(p[0].Y, p[1].Y)))
	}
}

func TestSub(t *testing.T) {
	wantVec(t, "Sub", Sub(v(1, 2), v(3, 5)), v(-2, -3))
	wantVec(t, "Sub", Sub(v(api.MinInt, 0), v(1, api.MinInt)), v(api.MinInt, api.MaxInt))
	wantVec(t, "Sub", Sub(v(api.MaxInt, api.MinInt), v(-1, api.MinInt)), v(api.MaxInt, 0))
	for _, p := range pairs() {
		wantVec(t, "Sub", Sub(p[0], p[1]), v(fix.Sub(p[0].X, p[1].X), fix.Sub(p[0].Y, p[1].Y)))
	}
}

func TestScale(t *testing.T) {
	wantVec(t, "Scale", Scale(v(one, -one), 2*one), v(2*one, -2*one))
	wantVec(t, "Scale", Scale(v(3, -3), one/2), v(1, -1))
	wantVec(t, "Scale", Scale(v(api.MinInt, api.MaxInt), -one), v(api.MaxInt, -api.MaxInt))
	wantVec(t, "Scale", Scale(v(api.MinInt, api.MaxInt), 2*one), v(api.MinInt, api.MaxInt))
	wantVec(t, "Scale", Scale(v(api.MinInt, 7), 0), v(0, 0))
	for _, p := range pairs() {
		for _, k := range []int{p[1].X, p[1].Y} {
			wantVec(t, "Scale", Scale(p[0], k), v(fix.Mul(p[0].X, k), fix.Mul(p[0].Y, k)))
		}
	}
}

func TestDot(t *testing.T) {
	wantDot(t, v(2*one, one), v(3*one, 4*one), 10*one)
	wantDot(t, v(one, one), v(one, -one), 0)
	// Each product is truncated ahead of the sum: the halves do not add up to one.
	wantDot(t, v(1, 1), v(one/2, one/2), 0)
	wantDot(t, v(1, 1), v(-one/2, -one/2), 0)
	// Each product is saturated ahead of the sum, and the sum as well.
	wantDot(t, v(api.MaxInt, api.MaxInt), v(api.MaxInt, -one), 0)
	wantDot(t, v(api.MinInt, api.MaxInt), v(api.MinInt, api.MinInt), -1)
	wantDot(t, v(api.MaxInt, api.MaxInt), v(one, one), api.MaxInt)
	wantDot(t, v(api.MinInt, api.MinInt), v(one, one), api.MinInt)
	for _, p := range pairs() {
		wantDot(t, p[0], p[1], fix.Add(fix.Mul(p[0].X, p[1].X), fix.Mul(p[0].Y, p[1].Y)))
	}
}

// P5.2

func TestLong(t *testing.T) {
	wantLong(t, v(0, 0), 0)
	wantLong(t, v(3, 4), 5)
	wantLong(t, v(-5, 12), 13)
	wantLong(t, v(1, 1), 1)
	wantLong(t, v(2, 2), 2)
	wantLong(t, v(0, -1), 1)
	wantLong(t, v(one, 0), one)
	wantLong(t, v(3*one, -4*one), 5*one)
	// Squares of which the sum needs a carry.
	wantLong(t, v(1<<32-1, 1<<32-1), 6074000998)
	// 3^2 + 4^2 = 5^2 just below the end.
	wantLong(t, v(api.MaxInt/5*3, api.MaxInt/5*4), api.MaxInt/5*5)
	wantLong(t, v(api.MaxInt, 0), api.MaxInt)
	wantLong(t, v(api.MaxInt-1, 0), api.MaxInt-1)
	wantLong(t, v(api.MaxInt-1, 1), api.MaxInt-1)
	// From the square of MaxInt - 1 to that of MaxInt it is 2^64 - 3.
	wantLong(t, v(api.MaxInt-1, 1<<32-1), api.MaxInt-1)
	wantLong(t, v(api.MaxInt-1, 1<<32), api.MaxInt)
	wantLong(t, v(api.MaxInt, api.MaxInt), api.MaxInt)
	wantLong(t, v(api.MinInt, 0), api.MaxInt)
	wantLong(t, v(0, api.MinInt), api.MaxInt)
	wantLong(t, v(api.MinInt, api.MinInt), api.MaxInt)
	for _, a := range someVecs(20000, 4) {
		wantLong(t, a, exactLong(a))
	}
}

func TestLongAroundSquares(t *testing.T) {
	for n := range 200 {
		wantLong(t, v(3*n, 4*n), 5*n)
		wantLong(t, v(n, 0), n)
		for m := range 200 {
			wantLong(t, v(n, m), exactLong(v(n, m)))
		}
	}
}

// P5.3

func TestClamp(t *testing.T) {
	wantClamp(t, v(5, -7), 6, v(5, -6), api.OK)
	wantClamp(t, v(6, -6), 6, v(6, -6), api.OK)
	wantClamp(t, v(7, -5), 6, v(6, -5), api.OK)
	wantClamp(t, v(5, -7), 0, v(0, 0), api.OK)
	wantClamp(t, v(api.MinInt, api.MaxInt), 0, v(0, 0), api.OK)
	wantClamp(t, v(api.MinInt, api.MaxInt), api.MaxInt, v(-api.MaxInt, api.MaxInt), api.OK)
	wantClamp(t, v(api.MinInt+1, api.MinInt), api.MaxInt-1, v(-api.MaxInt+1, -api.MaxInt+1), api.OK)
	for _, a := range someVecs(1000, 5) {
		for _, most := range edges() {
			if most < 0 {
				wantClamp(t, a, most, v(0, 0), api.ErrArg)
			} else {
				wantClamp(t, a, most, v(limited(a.X, most), limited(a.Y, most)), api.OK)
			}
		}
	}
}

func limited(n, most int) int {
	switch {
	case n > most:
		return most
	case n < -most:
		return -most
	}
	return n
}

func TestClampRefuses(t *testing.T) {
	wantClamp(t, v(1, 1), -1, v(0, 0), api.ErrArg)
	wantClamp(t, v(0, 0), -1, v(0, 0), api.ErrArg)
	wantClamp(t, v(api.MaxInt, api.MinInt), api.MinInt, v(0, 0), api.ErrArg)
}

// P5.4

func TestNear(t *testing.T) {
	wantNear(t, v(0, 0), v(3, -3), 3, true)
	wantNear(t, v(0, 0), v(4, 0), 3, false)
	wantNear(t, v(0, 0), v(0, -4), 3, false)
	wantNear(t, v(7, -7), v(7, -7), 0, true)
	wantNear(t, v(7, -7), v(7, -8), 0, false)
	wantNear(t, v(7, -7), v(6, -7), 0, false)
	wantNear(t, v(api.MinInt, 0), v(api.MaxInt, 0), api.MaxInt, false)
	wantNear(t, v(0, api.MaxInt), v(0, api.MinInt), api.MaxInt, false)
	// They differ by 2^64 - 1, which may not be taken for -1 or 1.
	wantNear(t, v(api.MinInt, 0), v(api.MaxInt, 0), 1, false)
	wantNear(t, v(api.MinInt, 0), v(-1, 0), api.MaxInt, true)
	wantNear(t, v(api.MinInt, 0), v(0, 0), api.MaxInt, false)
	wantNear(t, v(api.MaxInt, 0), v(0, 0), api.MaxInt, true)
	wantNear(t, v(api.MaxInt, 0), v(-1, 0), api.MaxInt, false)
	for _, p := range pairs() {
		for _, r := range append(edges(), size(p[0].X), size(p[1].Y)) {
			wantNear(t, p[0], p[1], r, exactNear(p[0], p[1], r))
		}
	}
}

// The least distance at which two are near is the greater of the differences, where that is a number.
func TestNearAtItsEdge(t *testing.T) {
	for _, p := range pairs() {
		d := exactApart(p[0].X, p[1].X)
		if y := exactApart(p[0].Y, p[1].Y); y.Cmp(d) > 0 {
			d = y
		}
		if d.IsInt64() {
			r := int(d.Int64())
			wantNear(t, p[0], p[1], r, true)
			wantNear(t, p[0], p[1], r-1, false)
		} else {
			wantNear(t, p[0], p[1], api.MaxInt, false)
		}
	}
}

func TestNearBelowZero(t *testing.T) {
	for _, r := range []int{-1, -2, -one, api.MinInt + 1, api.MinInt} {
		wantNear(t, v(0, 0), v(0, 0), r, false)
		wantNear(t, v(api.MinInt, 0), v(api.MaxInt, 0), r, false)
		wantNear(t, v(5, 5), v(5, 6), r, false)
	}
}

func TestMean(t *testing.T) {
	wantVec(t, "Mean", Mean(v(1, -1), v(2, -2)), v(1, -2))
	wantVec(t, "Mean", Mean(v(0, 0), v(-1, 1)), v(-1, 0))
	wantVec(t, "Mean", Mean(v(4, -4), v(8, -10)), v(6, -7))
	wantVec(t, "Mean", Mean(v(api.MinInt, api.MaxInt), v(api.MinInt, api.MaxInt)), v(api.MinInt, api.MaxInt))
	wantVec(t, "Mean", Mean(v(api.MinInt, api.MaxInt), v(api.MaxInt, api.MinInt)), v(-1, -1))
	wantVec(t, "Mean", Mean(v(api.MinInt, api.MaxInt), v(api.MinInt+1, api.MaxInt-1)), v(api.MinInt, api.MaxInt-1))
	for _, p := range pairs() {
		wantVec(t, "Mean", Mean(p[0], p[1]), v(exactMiddle(p[0].X, p[1].X), exactMiddle(p[0].Y, p[1].Y)))
	}
}

// P5.5

func TestLongBetweenPartsAndSum(t *testing.T) {
	for _, a := range someVecs(20000, 6) {
		x, y := size(a.X), size(a.Y)
		if n := Long(a); n < max(x, y) || n > fix.Add(x, y) {
			t.Error(a, n)
		}
	}
}

func TestLongOfRotated(t *testing.T) {
	for _, a := range someVecs(20000, 7) {
		if a.X > api.MinInt && a.Y > api.MinInt {
			wantLong(t, v(-a.Y, a.X), Long(a))
		}
	}
}

// P5.6

func TestNearIsSymmetric(t *testing.T) {
	for _, p := range pairs() {
		for _, r := range edges() {
			wantNear(t, p[1], p[0], r, Near(p[0], p[1], r))
		}
	}
}

func TestNearWithinMore(t *testing.T) {
	for _, p := range pairs() {
		for _, r := range edges() {
			if r < api.MaxInt && Near(p[0], p[1], r) {
				wantNear(t, p[0], p[1], r+1, true)
				wantNear(t, p[0], p[1], r+(api.MaxInt-r)/2, true)
				wantNear(t, p[0], p[1], api.MaxInt, true)
			}
		}
	}
}

func TestMeanBetween(t *testing.T) {
	between := func(m, n, mean int) bool { return min(m, n) <= mean && mean <= max(m, n) }
	for _, p := range pairs() {
		m := Mean(p[0], p[1])
		if !between(p[0].X, p[1].X, m.X) || !between(p[0].Y, p[1].Y, m.Y) {
			t.Error(p, m)
		}
	}
}

func TestClampIsIdempotent(t *testing.T) {
	for _, a := range someVecs(1000, 8) {
		for _, most := range edges() {
			if once, e := Clamp(a, most); e == api.OK {
				wantClamp(t, once, most, once, api.OK)
			}
		}
	}
}
