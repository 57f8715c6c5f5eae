package fix

import (
	"math/big"
	"math/rand"
	"strings"
	"testing"

	"tiltyard/api"
)

const one = api.One

// edges are the numbers at which lengths, signs and whole parts change, and their neighbours.
func edges() []int {
	l := []int{0, api.MinInt, api.MinInt + 1, api.MaxInt - 1, api.MaxInt, 3 * one, -3 * one, one / 3, 10 * one}
	for _, shift := range []int{0, 1, 15, 16, 17, 30, 31, 32, 33, 46, 47, 48, 61, 62} {
		for d := -1; d <= 1; d++ {
			l = append(l, 1<<shift+d, -1<<shift+d)
		}
	}
	return l
}

// someNumbers is a fixed list of numbers of all lengths.
func someNumbers(count int, seed int64) []int {
	r := rand.New(rand.NewSource(seed))
	var l []int
	for range count {
		l = append(l, int(r.Uint64())>>r.Intn(64))
	}
	return l
}

// pairs are all edges with each other, and some numbers.
func pairs() [][2]int {
	var l [][2]int
	for _, a := range edges() {
		for _, b := range edges() {
			l = append(l, [2]int{a, b})
		}
	}
	left, right := someNumbers(20000, 1), someNumbers(20000, 2)
	for i := range left {
		l = append(l, [2]int{left[i], right[i]})
	}
	return l
}

func numbers() []int { return append(edges(), someNumbers(20000, 3)...) }

func whole(n int) *big.Int { return big.NewInt(int64(n)) }

func product(a, b int) *big.Int { return new(big.Int).Mul(whole(a), whole(b)) }

// saturated is n, or the end that it is beyond.
func saturated(n *big.Int) int {
	if n.IsInt64() {
		return int(n.Int64())
	}
	if n.Sign() < 0 {
		return api.MinInt
	}
	return api.MaxInt
}

func wantMul(t *testing.T, a, b, n int) {
	t.Helper()
	if got := Mul(a, b); got != n {
		t.Errorf("Mul(%d, %d): %d, want %d", a, b, got, n)
	}
}

func wantDiv(t *testing.T, a, b, n int, e api.Errno) {
	t.Helper()
	if gotN, gotE := Div(a, b); gotN != n || gotE != e {
		t.Errorf("Div(%d, %d): %d, %d, want %d, %d", a, b, gotN, gotE, n, e)
	}
}

func wantSqrt(t *testing.T, a, n int, e api.Errno) {
	t.Helper()
	if gotN, gotE := Sqrt(a); gotN != n || gotE != e {
		t.Errorf("Sqrt(%d): %d, %d, want %d, %d", a, gotN, gotE, n, e)
	}
}

func wantParse(t *testing.T, s string, n int, e api.Errno) {
	t.Helper()
	if gotN, gotE := Parse(s); gotN != n || gotE != e {
		t.Errorf("Parse(%q): %d, %d, want %d, %d", s, gotN, gotE, n, e)
	}
}

func wantPrint(t *testing.T, a int, s string) {
	t.Helper()
	if got := Print(a); got != s {
		t.Errorf("Print(%d): %q, want %q", a, got, s)
	}
}

func TestErrorNumbers(t *testing.T) {
	if api.ErrArg != 1 || api.ErrNum != 20 || api.ErrDiv != 30 {
		t.Error(api.ErrArg, api.ErrNum, api.ErrDiv)
	}
}

// P3.1

func TestAdd(t *testing.T) {
	for _, x := range [][3]int{
		{1, 2, 3},
		{one, -one, 0},
		{api.MaxInt, 1, api.MaxInt},
		{1, api.MaxInt, api.MaxInt},
		{api.MaxInt - 1, 1, api.MaxInt},
		{api.MaxInt, api.MaxInt, api.MaxInt},
		{api.MinInt, -1, api.MinInt},
		{api.MinInt + 1, -1, api.MinInt},
		{api.MinInt, api.MinInt, api.MinInt},
		{api.MinInt, api.MaxInt, -1},
	} {
		if got := Add(x[0], x[1]); got != x[2] {
			t.Error(x, got)
		}
	}
	for _, p := range pairs() {
		if got := Add(p[0], p[1]); got != saturated(new(big.Int).Add(whole(p[0]), whole(p[1]))) {
			t.Error(p, got)
		}
	}
}

func TestSub(t *testing.T) {
	for _, x := range [][3]int{
		{1, 2, -1},
		{one, one, 0},
		{api.MinInt, 1, api.MinInt},
		{api.MinInt + 1, 1, api.MinInt},
		{api.MinInt, api.MaxInt, api.MinInt},
		{api.MinInt, api.MinInt, 0},
		{api.MaxInt, -1, api.MaxInt},
		{0, api.MinInt, api.MaxInt},
		{-1, api.MinInt, api.MaxInt},
		{0, api.MaxInt, -api.MaxInt},
	} {
		if got := Sub(x[0], x[1]); got != x[2] {
			t.Error(x, got)
		}
	}
	for _, p := range pairs() {
		if got := Sub(p[0], p[1]); got != saturated(new(big.Int).Sub(whole(p[0]), whole(p[1]))) {
			t.Error(p, got)
		}
	}
}

func TestMul(t *testing.T) {
	wantMul(t, one/2, 3*one, 3*one/2)
	wantMul(t, -one/2, 3*one, -3*one/2)
	wantMul(t, 1, 1, 0)
	wantMul(t, -1, 1, 0)
	wantMul(t, one+1, -1, -1)
	wantMul(t, 3*one/2, -1, -1)
	wantMul(t, api.MinInt, api.MinInt, api.MaxInt)
	wantMul(t, api.MinInt, api.MaxInt, api.MinInt)
	wantMul(t, api.MinInt, one, api.MinInt)
	wantMul(t, api.MinInt, -one, api.MaxInt)
	wantMul(t, api.MaxInt, -one, -api.MaxInt)
	wantMul(t, api.MaxInt, one+1, api.MaxInt)
	wantMul(t, api.MinInt, one+1, api.MinInt)
	for _, p := range pairs() {
		n := product(p[0], p[1])
		wantMul(t, p[0], p[1], saturated(n.Quo(n, whole(one))))
	}
}

func TestDiv(t *testing.T) {
	wantDiv(t, one, 3*one, 1431655765, api.OK)
	wantDiv(t, -one, 3*one, -1431655765, api.OK)
	wantDiv(t, one, -3*one, -1431655765, api.OK)
	wantDiv(t, -one, -3*one, 1431655765, api.OK)
	wantDiv(t, 1, 2*one, 0, api.OK)
	wantDiv(t, -1, 2*one, 0, api.OK)
	wantDiv(t, 0, api.MinInt, 0, api.OK)
	wantDiv(t, api.MaxInt, 1, api.MaxInt, api.OK)
	wantDiv(t, api.MaxInt, -1, api.MinInt, api.OK)
	wantDiv(t, api.MinInt, 1, api.MinInt, api.OK)
	wantDiv(t, api.MinInt, -1, api.MaxInt, api.OK)
	wantDiv(t, api.MinInt, one, api.MinInt, api.OK)
	wantDiv(t, api.MinInt, -one, api.MaxInt, api.OK)
	wantDiv(t, api.MinInt, api.MinInt, one, api.OK)
	wantDiv(t, api.MaxInt, api.MinInt, -one+1, api.OK)
	for _, p := range pairs() {
		if p[1] != 0 {
			n := product(p[0], one)
			wantDiv(t, p[0], p[1], saturated(n.Quo(n, whole(p[1]))), api.OK)
		}
	}
}

func TestDivByZero(t *testing.T) {
	for _, a := range edges() {
		wantDiv(t, a, 0, 0, api.ErrDiv)
	}
}

// P3.2

func TestSqrt(t *testing.T) {
	wantSqrt(t, 0, 0, api.OK)
	wantSqrt(t, 1, 65536, api.OK)
	wantSqrt(t, one, one, api.OK)
	wantSqrt(t, 2*one, 6074000999, api.OK)
	wantSqrt(t, 4*one, 2*one, api.OK)
	wantSqrt(t, 4*one-1, 2*one-1, api.OK)
	wantSqrt(t, api.MaxInt, 199032864766430, api.OK)
	for _, a := range numbers() {
		if a >= 0 {
			n := product(a, one)
			wantSqrt(t, a, int(n.Sqrt(n).Int64()), api.OK)
		}
	}
}

func TestSqrtOfNegative(t *testing.T) {
	for _, a := range numbers() {
		if a < 0 {
			wantSqrt(t, a, 0, api.ErrArg)
		}
	}
}

// P3.3

func TestFrom(t *testing.T) {
	for _, x := range [][2]int{
		{0, 0},
		{3, 3 * one},
		{-3, -3 * one},
		{api.Whole, api.Whole * one},
		{api.Whole + 1, api.MaxInt},
		{-api.Whole, -api.Whole * one},
		{-api.Whole - 1, api.MinInt},
		{-api.Whole - 2, api.MinInt},
		{one, api.MaxInt},
		{-one, api.MinInt},
		{api.MaxInt, api.MaxInt},
		{api.MinInt, api.MinInt},
	} {
		if got := From(x[0]); got != x[1] {
			t.Error(x, got)
		}
	}
	for _, n := range numbers() {
		if got := From(n); got != saturated(product(n, one)) {
			t.Error(n, got)
		}
	}
}

func TestTo(t *testing.T) {
	for _, x := range [][2]int{
		{0, 0},
		{1, 0},
		{-1, 0},
		{one - 1, 0},
		{-one + 1, 0},
		{one, 1},
		{-one - 1, -1},
		{2*one - 1, 1},
		{-2 * one, -2},
		{api.MaxInt, api.Whole},
		{api.MinInt, -api.Whole - 1},
		{api.MinInt + 1, -api.Whole},
	} {
		if got := To(x[0]); got != x[1] {
			t.Error(x, got)
		}
	}
	for _, a := range numbers() {
		if got := To(a); got != saturated(new(big.Int).Quo(whole(a), whole(one))) {
			t.Error(a, got)
		}
	}
}

// P3.4

func TestParse(t *testing.T) {
	wantParse(t, "1.5", 6442450944, api.OK)
	wantParse(t, "0.1", 429496729, api.OK)
	wantParse(t, "0.0", 0, api.OK)
	wantParse(t, "7.25", 29*one/4, api.OK)
	wantParse(t, "10.50", 21*one/2, api.OK)
	wantParse(t, "9.9", 42520176230, api.OK)
	wantParse(t, "1000000000.0", 1000000000*one, api.OK)
	wantParse(t, "2147483647.0", api.Whole*one, api.OK)
	wantParse(t, "2147483647."+strings.Repeat("9", 32), api.MaxInt, api.OK)
	wantParse(t, "0."+strings.Repeat("9", 32), one-1, api.OK)
	wantParse(t, "0."+strings.Repeat("0", 32), 0, api.OK)
	// 2^-32, and what is just below it.
	wantParse(t, "0.00000000023283064365386962890625", 1, api.OK)
	wantParse(t, "0.00000000023283064365386962890624", 0, api.OK)
	wantParse(t, "0.49999999999999999999999999999999", one/2-1, api.OK)
	wantParse(t, "0.50000000000000000000000000000000", one/2, api.OK)
}

func TestParseIsTruncated(t *testing.T) {
	r := rand.New(rand.NewSource(4))
	for range 5000 {
		fraction := make([]byte, 1+r.Intn(32))
		for i := range fraction {
			fraction[i] = '0' + byte(r.Intn(10))
		}
		s := whole(r.Intn(api.Whole+1)>>r.Intn(31)).String() + "." + string(fraction)
		n, _ := new(big.Rat).SetString(s)
		n.Mul(n, new(big.Rat).SetInt(whole(one)))
		wantParse(t, s, int(new(big.Int).Quo(n.Num(), n.Denom()).Int64()), api.OK)
	}
}

func TestParseRefuses(t *testing.T) {
	for _, s := range []string{
		"", "1", "1.", ".5", ".", "..", "1..5", "1.2.3", "01.5", "00.5", "0000000000.5",
		"2147483648.0", "2147483650.0", "3000000000.0", "9999999999.9", "10000000000.0", "00000000001.0",
		// 2^64 + 1, which may not be taken for 1.
		"18446744073709551617.0",
		"-1.0", "+1.0", "1.-5", "1.5x", "x1.5", "1x.5", "1.x5", "1.5 ", " 1.5", "1 .5", "1. 5",
		"1,5", "1e5", "1.5e1", "0x1.8", "1_0.5", "1.5_0", "1.5\x00", "1/5", "1.5:", "1.5/", "1:.5",
		"1.\u0661", "\u0661.5", "1.\xff", "\uff11.5",
		"0." + strings.Repeat("0", 33), "0." + strings.Repeat("9", 33), "0." + strings.Repeat("1", 1<<16),
		strings.Repeat("1", 1<<16) + ".0", strings.Repeat("1", 1<<16), "1." + strings.Repeat("1", 31) + "x",
	} {
		wantParse(t, s, 0, api.ErrNum)
	}
}

func TestParseKnowsOnlyDigits(t *testing.T) {
	for b := range 256 {
		digit := b >= '0' && b <= '9'
		for _, s := range []string{string([]byte{byte(b), '.', '0'}), string([]byte{'0', '.', byte(b)}), string([]byte{'1', byte(b), '.', '0'})} {
			if _, e := Parse(s); (e == api.OK) != digit || !digit && e != api.ErrNum {
				t.Errorf("%q: %d", s, e)
			}
		}
		if _, e := Parse(string([]byte{'1', byte(b), '0'})); (e == api.OK) != (b == '.') {
			t.Error(b, e)
		}
	}
}

// P3.5

func TestPrint(t *testing.T) {
	wantPrint(t, 0, "0.0")
	wantPrint(t, 3*one/2, "1.5")
	wantPrint(t, -3*one/2, "-1.5")
	wantPrint(t, one, "1.0")
	wantPrint(t, -one, "-1.0")
	wantPrint(t, 10*one, "10.0")
	wantPrint(t, one/16, "0.0625")
	wantPrint(t, 1, "0.00000000023283064365386962890625")
	wantPrint(t, -1, "-0.00000000023283064365386962890625")
	wantPrint(t, one-1, "0.99999999976716935634613037109375")
	wantPrint(t, api.MaxInt, "2147483647.99999999976716935634613037109375")
	wantPrint(t, api.MinInt, "-2147483648.0")
	wantPrint(t, api.MinInt+1, "-2147483647.99999999976716935634613037109375")
}

func TestPrintIsExact(t *testing.T) {
	for _, a := range numbers() {
		s := new(big.Rat).SetFrac(whole(a), whole(one)).FloatString(32)
		s = strings.TrimRight(s, "0")
		if strings.HasSuffix(s, ".") {
			s += "0"
		}
		wantPrint(t, a, s)
	}
}

// P3.6

func TestCommutative(t *testing.T) {
	for _, p := range pairs() {
		if Add(p[0], p[1]) != Add(p[1], p[0]) || Mul(p[0], p[1]) != Mul(p[1], p[0]) {
			t.Error(p)
		}
	}
}

func TestNeutral(t *testing.T) {
	for _, a := range numbers() {
		if Add(a, 0) != a || Add(0, a) != a || Mul(a, one) != a || Mul(one, a) != a {
			t.Error(a)
		}
	}
}

func TestSubOfAdd(t *testing.T) {
	for _, p := range pairs() {
		if new(big.Int).Add(whole(p[0]), whole(p[1])).IsInt64() && Sub(Add(p[0], p[1]), p[1]) != p[0] {
			t.Error(p)
		}
	}
}

func TestMonotonic(t *testing.T) {
	by := append(edges(), someNumbers(100, 5)...)
	for _, p := range pairs()[:2000] {
		less, more := min(p[0], p[1]), max(p[0], p[1])
		for _, c := range by {
			if Add(less, c) > Add(more, c) || Sub(less, c) > Sub(more, c) {
				t.Error(less, more, c)
			}
			if c >= 0 && Mul(less, c) > Mul(more, c) {
				t.Error(less, more, c)
			}
			small, _ := Div(less, c)
			great, _ := Div(more, c)
			if c > 0 && small > great {
				t.Error(less, more, c)
			}
		}
	}
}

func TestOthersAreMonotonic(t *testing.T) {
	for _, p := range pairs() {
		less, more := min(p[0], p[1]), max(p[0], p[1])
		if From(less) > From(more) || To(less) > To(more) {
			t.Error(less, more)
		}
		small, _ := Sqrt(less)
		great, _ := Sqrt(more)
		if less >= 0 && small > great {
			t.Error(less, more)
		}
	}
}

// P3.7

func TestSquareOfRoot(t *testing.T) {
	for _, a := range numbers() {
		if a < 0 {
			continue
		}
		root, _ := Sqrt(a)
		if Mul(root, root) > a || Mul(root+1, root+1) < a {
			t.Error(a, root)
		}
	}
}

// P3.8

func TestParseOfPrint(t *testing.T) {
	for _, a := range numbers() {
		if a >= 0 {
			wantParse(t, Print(a), a, api.OK)
		} else {
			wantParse(t, Print(a), 0, api.ErrNum)
		}
	}
}
