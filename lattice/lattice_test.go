package lattice

import (
	"math"
	"slices"
	"testing"

	"tiltyard/api"
)

const edge = api.MaxCell

// at has an east and a north coordinate.
func at(east, north int) complex128 { return complex(float64(east), float64(north)) }

func minusZero() float64 { return math.Copysign(0, -1) }

func someCells() []complex128 {
	parts := []int{0, 1, -1, 2, -3, 7, 499, 500, -500, 501, 1000, -1001, edge - 1, edge, -edge}
	cells := []complex128{complex(minusZero(), 0), complex(0, minusZero()), complex(minusZero(), minusZero()), complex(minusZero(), 5)}
	for _, east := range parts {
		for _, north := range parts {
			cells = append(cells, at(east, north))
		}
	}
	return cells
}

func noCells() []complex128 {
	parts := []float64{0.5, -0.5, 1.5, math.SmallestNonzeroFloat64, math.NaN(), math.Inf(1), math.Inf(-1),
		edge + 1, -edge - 1, edge + 0.5, math.Nextafter(edge, math.Inf(1)), math.Nextafter(edge, 0), 1 << 21, 1 << 62, -1 << 63, math.MaxFloat64}
	cells := []complex128{}
	for _, x := range parts {
		cells = append(cells, complex(x, 0), complex(0, x), complex(x, x), complex(x, edge), complex(-3, x))
	}
	return cells
}

func near(p complex128, most int) []complex128 {
	cells := []complex128{}
	for east := -most; east <= most; east++ {
		for north := -most; north <= most; north++ {
			cells = append(cells, p+at(east, north))
		}
	}
	return cells
}

// distance is Far of cells, by integers.
func distance(a, b complex128) int {
	east := int(real(a)) - int(real(b))
	north := int(imag(a)) - int(imag(b))
	return max(east, -east, north, -north)
}

func wantTurn(t *testing.T, p complex128, n int, want complex128) {
	t.Helper()
	if got, e := Turn(p, n); got != want || e != api.OK {
		t.Errorf("Turn(%v, %d) is %v, %v, not %v", p, n, got, e, want)
	}
}

func wantFar(t *testing.T, a, b complex128, want int) {
	t.Helper()
	if got, e := Far(a, b); got != want || e != api.OK {
		t.Errorf("Far(%v, %v) is %d, %v, not %d", a, b, got, e, want)
	}
}

func walk(t *testing.T, a, b complex128) []complex128 {
	t.Helper()
	cells, e := Walk(a, b)
	if e != api.OK {
		t.Fatalf("Walk(%v, %v) is %v", a, b, e)
	}
	return cells
}

func TestErrorNumbers(t *testing.T) {
	_, arg := Heading(0)
	_, long := Place(501)
	_, cell := Mirror(0.5)
	if arg != 1 || long != 2 || cell != 40 {
		t.Errorf("%d, %d, %d", int(arg), int(long), int(cell))
	}
}

func TestWhatIsNoCellIsRefused(t *testing.T) {
	for _, p := range noCells() {
		for n := -5; n <= 5; n++ {
			if got, e := Turn(p, n); got != 0 || e != api.ErrCell {
				t.Errorf("Turn(%v, %d) is %v, %v", p, n, got, e)
			}
		}
		if got, e := Mirror(p); got != 0 || e != api.ErrCell {
			t.Errorf("Mirror(%v) is %v, %v", p, got, e)
		}
		if h, e := Heading(p); h != 0 || e != api.ErrCell {
			t.Errorf("Heading(%v) is %d, %v", p, h, e)
		}
		if n, e := Place(p); n != 0 || e != api.ErrCell {
			t.Errorf("Place(%v) is %d, %v", p, n, e)
		}
		for _, q := range []complex128{0, 1, -1i, edge, -edge - edge*1i, p, edge + 1} {
			for _, pair := range [][2]complex128{{p, q}, {q, p}} {
				if n, e := Far(pair[0], pair[1]); n != 0 || e != api.ErrCell {
					t.Errorf("Far(%v, %v) is %d, %v", pair[0], pair[1], n, e)
				}
				if l, e := Walk(pair[0], pair[1]); len(l) != 0 || e != api.ErrCell {
					t.Errorf("Walk(%v, %v) is %v, %v", pair[0], pair[1], l, e)
				}
			}
		}
	}
}

// P4.1

func TestCell(t *testing.T) {
	for _, p := range someCells() {
		if !Cell(p) {
			t.Errorf("%v should be a cell", p)
		}
	}
	for _, p := range noCells() {
		if Cell(p) {
			t.Errorf("%v should be no cell", p)
		}
	}
}

func TestTurnOfExamples(t *testing.T) {
	wantTurn(t, 3+2i, 1, -2+3i)
	wantTurn(t, 3+2i, -1, 2-3i)
	wantTurn(t, 3+2i, 0, 3+2i)
	wantTurn(t, 3+2i, 2, -3-2i)
	wantTurn(t, 3+2i, 3, 2-3i)
	wantTurn(t, edge-edge*1i, 1, edge+edge*1i)
	wantTurn(t, 0, 1, 0)
}

func TestTurnByAnyNumber(t *testing.T) {
	// What is left of each by 4, so that nothing is computed of the ends.
	left := map[int]int{0: 0, 1: 1, 2: 2, 3: 3, 4: 0, 5: 1, -1: 3, -2: 2, -3: 1, -4: 0, -5: 3, -6: 2, 1000001: 1,
		math.MaxInt: 3, math.MaxInt - 1: 2, math.MinInt: 0, math.MinInt + 1: 1, math.MinInt + 2: 2}
	for n, quarters := range left {
		for _, p := range someCells() {
			east, north := int(real(p)), int(imag(p))
			want := [4]complex128{at(east, north), at(-north, east), at(-east, -north), at(north, -east)}
			wantTurn(t, p, n, want[quarters])
		}
	}
}

func TestMirror(t *testing.T) {
	if p, e := Mirror(3 + 2i); p != 3-2i || e != api.OK {
		t.Errorf("%v, %v", p, e)
	}
	for _, p := range someCells() {
		want := at(int(real(p)), -int(imag(p)))
		if got, e := Mirror(p); got != want || e != api.OK {
			t.Errorf("Mirror(%v) is %v, %v", p, got, e)
		}
	}
}

// P4.2

func TestFar(t *testing.T) {
	wantFar(t, 0, 3-5i, 5)
	wantFar(t, 0, 5-3i, 5)
	wantFar(t, 2+2i, 2+2i, 0)
	wantFar(t, -2-2i, 2+1i, 4)
	wantFar(t, -edge-edge*1i, edge, 2*edge)
	wantFar(t, edge*1i, -edge*1i, 2*edge)
	for _, a := range someCells() {
		for _, b := range someCells() {
			wantFar(t, a, b, distance(a, b))
		}
	}
}

func TestHeading(t *testing.T) {
	// Rows from south to north, in each from west to east; in the midst is 0.
	want := [3][3]int{{5, 6, 7}, {4, -1, 0}, {3, 2, 1}}
	for _, p := range someCells() {
		row, column := 1, 1
		switch north := int(imag(p)); {
		case north > 0:
			row = 2
		case north < 0:
			row = 0
		}
		switch east := int(real(p)); {
		case east > 0:
			column = 2
		case east < 0:
			column = 0
		}
		h, e := Heading(p)
		if p == 0 {
			if h != 0 || e != api.ErrArg {
				t.Errorf("Heading(%v) is %d, %v", p, h, e)
			}
			continue
		}
		if h != want[row][column] || e != api.OK {
			t.Errorf("Heading(%v) is %d, %v", p, h, e)
		}
	}
	if h, e := Heading(-7 + 2i); h != 3 || e != api.OK {
		t.Errorf("%d, %v", h, e)
	}
}

func TestStep(t *testing.T) {
	for h, want := range []complex128{1, 1 + 1i, 1i, -1 + 1i, -1, -1 - 1i, -1i, 1 - 1i} {
		if p, e := Step(h); p != want || e != api.OK {
			t.Errorf("Step(%d) is %v, %v", h, p, e)
		}
		if back, e := Heading(want); back != h || e != api.OK {
			t.Errorf("Heading(%v) is %d, %v", want, back, e)
		}
	}
	for _, h := range []int{-1, -8, 8, 9, 16, math.MaxInt, math.MinInt} {
		if p, e := Step(h); p != 0 || e != api.ErrArg {
			t.Errorf("Step(%d) is %v, %v", h, p, e)
		}
	}
}

// P4.3

func TestWalkOfExamples(t *testing.T) {
	if got := walk(t, 0, 3+1i); !slices.Equal(got, []complex128{1 + 1i, 2 + 1i, 3 + 1i}) {
		t.Errorf("%v", got)
	}
	if got := walk(t, 1+1i, -1-2i); !slices.Equal(got, []complex128{0, -1 - 1i, -1 - 2i}) {
		t.Errorf("%v", got)
	}
	if got := walk(t, 5-5i, 5-5i); len(got) != 0 {
		t.Errorf("%v", got)
	}
	if got := walk(t, 0, complex(minusZero(), minusZero())); len(got) != 0 {
		t.Errorf("%v", got)
	}
}

func TestWalkGoesByHeadings(t *testing.T) {
	for _, a := range []complex128{0, 3 - 2i, edge + edge*1i, -edge - 5i} {
		for _, b := range near(a, 6) {
			if !Cell(b) {
				continue
			}
			previous := a
			for _, p := range walk(t, a, b) {
				h, e := Heading(b - previous)
				step, _ := Step(h)
				if e != api.OK || p != previous+step {
					t.Fatalf("Walk(%v, %v): %v behind %v", a, b, p, previous)
				}
				previous = p
			}
			if previous != b {
				t.Fatalf("Walk(%v, %v) ends at %v", a, b, previous)
			}
		}
	}
}

func TestWalkIsOfAtMostThousandCells(t *testing.T) {
	for _, way := range []complex128{1000, -1000, 1000i, -1000i, 1000 + 1000i, 1000 - 3i, -7 - 1000i} {
		for _, a := range []complex128{0, 17 - 4i} {
			if got := walk(t, a, a+way); len(got) != 1000 || got[999] != a+way {
				t.Errorf("Walk(%v, %v) has %d cells", a, a+way, len(got))
			}
		}
	}
	if got := walk(t, edge, edge-1000); len(got) != 1000 {
		t.Errorf("%d cells", len(got))
	}
	for _, way := range []complex128{1001, -1001, 1001i, -1001i, 1001 + 1001i, 1001 - 3i, -7 - 1001i, edge, -edge * 1i} {
		if got, e := Walk(0, way); len(got) != 0 || e != api.ErrLong {
			t.Errorf("Walk(0, %v) has %d cells, %v", way, len(got), e)
		}
	}
	if got, e := Walk(-edge, edge); len(got) != 0 || e != api.ErrLong {
		t.Errorf("%d cells, %v", len(got), e)
	}
}

func TestWalksShareNoMemory(t *testing.T) {
	first := walk(t, 0, 3+1i)
	whole := first[:cap(first)]
	for i := range whole {
		whole[i] = 9
	}
	if again := walk(t, 0, 3+1i); !slices.Equal(again, []complex128{1 + 1i, 2 + 1i, 3 + 1i}) {
		t.Errorf("%v", again)
	}
}

// P4.4

// numbers is the spiral up to its last number, as the chapter tells it.
func numbers() []complex128 {
	east, north := 0, 0
	cells := []complex128{0}
	directions := [4][2]int{{1, 0}, {0, 1}, {-1, 0}, {0, -1}}
	for run := 0; len(cells) <= 1000000; run++ {
		for range run/2 + 1 {
			east += directions[run%4][0]
			north += directions[run%4][1]
			cells = append(cells, at(east, north))
		}
	}
	return cells[:1000001]
}

// placeOf tells the number from the side of the square on which a cell lies.
func placeOf(p complex128) int {
	east, north := int(real(p)), int(imag(p))
	k := distance(0, p)
	switch {
	case north == -k:
		return 4*k*k + 2*k + k + east
	case east == -k:
		return 4*k*k + k - north
	case north == k:
		return 4*k*k - 2*k + k - east
	}
	return 4*k*k - 4*k + k + north
}

func TestSpiralOfExamples(t *testing.T) {
	for n, want := range map[int]complex128{0: 0, 1: 1, 2: 1 + 1i, 3: 1i, 4: -1 + 1i, 5: -1, 6: -1 - 1i, 7: -1i, 8: 1 - 1i, 9: 2 - 1i} {
		if p, e := Spiral(n); p != want || e != api.OK {
			t.Errorf("Spiral(%d) is %v, %v", n, p, e)
		}
		if k, e := Place(want); k != n || e != api.OK {
			t.Errorf("Place(%v) is %d, %v", want, k, e)
		}
	}
}

func TestSpiralStepByStep(t *testing.T) {
	for n, want := range numbers() {
		// Beyond the first runs, only some of the middles, to be quick.
		if n > 20000 && n < 998000 && n%97 != 0 {
			continue
		}
		if p, e := Spiral(n); p != want || e != api.OK {
			t.Fatalf("Spiral(%d) is %v, %v, not %v", n, p, e, want)
		}
	}
}

func TestSpiralOfWrongNumbers(t *testing.T) {
	if p, e := Spiral(1000000); p != numbers()[1000000] || e != api.OK {
		t.Errorf("%v, %v", p, e)
	}
	for _, n := range []int{-1, -2, 1000001, 1002000, math.MaxInt, math.MinInt} {
		if p, e := Spiral(n); p != 0 || e != api.ErrArg {
			t.Errorf("Spiral(%d) is %v, %v", n, p, e)
		}
	}
}

func TestPlaceOfCells(t *testing.T) {
	cells := near(0, 40)
	for k := -500; k <= 500; k++ {
		cells = append(cells, at(k, 500), at(k, -500), at(500, k), at(-500, k), at(k, k/3), at(-k, k), at(k, k), at(0, k), at(k, 0))
	}
	cells = append(cells, complex(minusZero(), minusZero()), complex(minusZero(), -4), complex(3, minusZero()))
	for _, p := range cells {
		if n, e := Place(p); n != placeOf(p) || e != api.OK {
			t.Fatalf("Place(%v) is %d, %v, not %d", p, n, e, placeOf(p))
		}
	}
}

func TestPlaceOfFarCells(t *testing.T) {
	for _, p := range []complex128{501, -501, 501i, -501i, 501 + 501i, 500 - 501i, -501 + 3i, edge, -edge - edge*1i} {
		if n, e := Place(p); n != 0 || e != api.ErrLong {
			t.Errorf("Place(%v) is %d, %v", p, n, e)
		}
	}
}

// P4.5

func TestTurnsAndMirrorsChangeNothing(t *testing.T) {
	for _, p := range someCells() {
		turned := p
		for range 4 {
			turned, _ = Turn(turned, 1)
		}
		once, _ := Mirror(p)
		twice, e := Mirror(once)
		if turned != p || twice != p || e != api.OK {
			t.Errorf("%v: %v, %v, %v", p, turned, twice, e)
		}
		wantTurn(t, p, 4, p)
	}
}

func TestFarOfTurnedAndMirroredCells(t *testing.T) {
	for _, a := range someCells() {
		for _, b := range someCells() {
			want, _ := Far(a, b)
			for n := -1; n <= 4; n++ {
				c, _ := Turn(a, n)
				d, _ := Turn(b, n)
				wantFar(t, c, d, want)
			}
			c, _ := Mirror(a)
			d, _ := Mirror(b)
			wantFar(t, c, d, want)
		}
	}
}

// P4.6

func TestWalkComesNearer(t *testing.T) {
	for _, a := range []complex128{0, -4 + 9i, edge - edge*1i} {
		for _, b := range append(near(a, 5), a-900+300i, a-1000+1000i, a+1i, a-77+1000i) {
			far, e := Far(a, b)
			if e != api.OK {
				continue
			}
			cells := walk(t, a, b)
			if len(cells) != far || far > 0 && cells[far-1] != b {
				t.Fatalf("Walk(%v, %v) has %d cells", a, b, len(cells))
			}
			previous := a
			for i, p := range cells {
				if !Cell(p) || distance(previous, p) != 1 || distance(p, b) != far-i-1 {
					t.Fatalf("Walk(%v, %v): %v behind %v", a, b, p, previous)
				}
				previous = p
			}
		}
	}
}

// P4.7

func TestPlaceOfSpiral(t *testing.T) {
	steps := []int{}
	for n := range 5000 {
		steps = append(steps, n)
	}
	for n := 5000; n < 998000; n += 97 {
		steps = append(steps, n)
	}
	for n := 998000; n < 1000000; n++ {
		steps = append(steps, n)
	}
	for _, n := range steps {
		p, _ := Spiral(n)
		after, e := Spiral(n + 1)
		if e != api.OK || distance(p, after) != 1 {
			t.Fatalf("%d: %v, %v, %v", n, p, after, e)
		}
		if k, e := Place(p); k != n || e != api.OK {
			t.Fatalf("Place(%v) is %d, %v, not %d", p, k, e, n)
		}
		k := 0
		for n >= (2*k+1)*(2*k+1) {
			k++
		}
		wantFar(t, 0, p, k)
	}
	last, _ := Spiral(1000000)
	if n, e := Place(last); n != 1000000 || e != api.OK {
		t.Errorf("%d, %v", n, e)
	}
}
