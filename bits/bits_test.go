package bits

import (
	"bytes"
	"strconv"
	"strings"
	"testing"

	"tiltyard/api"
)

// number is a number and how many bits it is put in.
type number struct{ v, n int }

// digits is the number as n binary digits: the tests' own measure of what Put must write.
func (x number) digits() string {
	if x.n == 0 {
		return ""
	}
	s := strconv.FormatInt(int64(x.v), 2)
	return strings.Repeat("0", x.n-len(s)) + s
}

// packed are the bytes of binary digits, eight a byte, filled with 0.
func packed(digits string) []byte {
	digits += strings.Repeat("0", (8-len(digits)%8)%8)
	var b []byte
	for ; digits != ""; digits = digits[8:] {
		x, err := strconv.ParseUint(digits[:8], 2, 8)
		if err != nil {
			panic(err)
		}
		b = append(b, byte(x))
	}
	return b
}

// someNumbers is a fixed list of numbers of all widths, of which many are at the ends of what their width holds.
func someNumbers(count int, seed uint64) []number {
	var l []number
	for range count {
		seed = seed*6364136223846793005 + 1442695040888963407
		n := int(seed>>33) % 64
		greatest := int(uint64(1)<<n - 1)
		seed = seed*6364136223846793005 + 1442695040888963407
		switch seed >> 60 {
		case 0:
			l = append(l, number{0, n})
		case 1:
			l = append(l, number{greatest, n})
		default:
			l = append(l, number{int(seed>>1) & greatest, n})
		}
	}
	return l
}

func mustPut(t *testing.T, w *Writer, l ...number) {
	t.Helper()
	for _, x := range l {
		if e := w.Put(x.v, x.n); e != api.OK {
			t.Fatalf("Put(%d, %d): %v", x.v, x.n, e)
		}
	}
}

func wantWritten(t *testing.T, w *Writer, length int, b []byte) {
	t.Helper()
	if w.Len() != length {
		t.Errorf("Len: %d, want %d", w.Len(), length)
	}
	if got := w.Bytes(); !bytes.Equal(got, b) {
		t.Errorf("Bytes: %v, want %v", got, b)
	}
}

func wantTaken(t *testing.T, r *Reader, n, v int, e api.Errno) {
	t.Helper()
	if gotV, gotE := r.Take(n); gotV != v || gotE != e {
		t.Errorf("Take(%d): %d, %d, want %d, %d", n, gotV, gotE, v, e)
	}
}

// P1.1

func TestNewWriterHasNoBits(t *testing.T) {
	wantWritten(t, New(), 0, nil)
}

func TestPutWritesHighestBitFirst(t *testing.T) {
	for _, x := range []struct {
		l []number
		b []byte
	}{
		{[]number{{1, 1}}, []byte{128}},
		{[]number{{1, 8}}, []byte{1}},
		{[]number{{6, 3}}, []byte{192}},
		{[]number{{5, 3}, {0, 1}, {255, 8}}, []byte{175, 240}},
		{[]number{{0, 7}, {1, 2}}, []byte{0, 128}},
		{[]number{{0x1234, 16}}, []byte{0x12, 0x34}},
		{[]number{{1, 4}, {0x23456, 20}}, []byte{0x12, 0x34, 0x56}},
		{[]number{{0, 9}}, []byte{0, 0}},
	} {
		w := New()
		length := 0
		for _, y := range x.l {
			length += y.n
		}
		mustPut(t, w, x.l...)
		wantWritten(t, w, length, x.b)
	}
}

func TestPutEveryWidthAtItsEnds(t *testing.T) {
	for n := range 64 {
		greatest := int(uint64(1)<<n - 1)
		for _, v := range []int{0, greatest / 2, greatest} {
			for shift := range 8 {
				w := New()
				x := number{v, n}
				mustPut(t, w, number{0, shift}, x)
				wantWritten(t, w, shift+n, packed(strings.Repeat("0", shift)+x.digits()))
			}
		}
	}
}

func TestPutNoBitsChangesNothing(t *testing.T) {
	w := New()
	mustPut(t, w, number{0, 0})
	wantWritten(t, w, 0, nil)
	mustPut(t, w, number{255, 8}, number{0, 0})
	wantWritten(t, w, 8, []byte{255})
}

func TestPutWrongArguments(t *testing.T) {
	wrong := []number{
		{0, -1}, {1, -1}, {-1, -1}, {0, api.MinInt},
		{0, 64}, {1, 64}, {api.MaxInt, 64}, {0, 65}, {0, api.MaxInt},
		{1, 0}, {-1, 0}, {-1, 4}, {-1, 63}, {api.MinInt, 63}, {api.MinInt, 0},
		{api.MaxInt, 62},
	}
	for n := range 63 {
		wrong = append(wrong, number{1 << n, n}, number{-1, n}, number{api.MinInt, n})
	}
	for _, start := range []number{{0, 0}, {5, 3}, {200, 8}, {1, 13}} {
		w := New()
		mustPut(t, w, start)
		for _, x := range wrong {
			if e := w.Put(x.v, x.n); e != api.ErrArg {
				t.Errorf("Put(%d, %d): %v", x.v, x.n, e)
			}
			wantWritten(t, w, start.n, packed(start.digits()))
		}
		mustPut(t, w, number{3, 2})
		wantWritten(t, w, start.n+2, packed(start.digits()+"11"))
	}
}

// filled is a writer with that many bits, all of them 1.
func filled(t *testing.T, count int) *Writer {
	t.Helper()
	w := New()
	for ; count >= 63; count -= 63 {
		mustPut(t, w, number{api.MaxInt, 63})
	}
	mustPut(t, w, number{1<<count - 1, count})
	return w
}

func TestPutUpToMaxBits(t *testing.T) {
	full := bytes.Repeat([]byte{255}, api.MaxBits/8)
	for _, room := range []int{1, 7, 8, 62, 63} {
		w := filled(t, api.MaxBits-room)
		want := w.Bytes()
		if room < 63 {
			if e := w.Put(0, room+1); e != api.ErrLong {
				t.Errorf("one bit more than %d: %v", room, e)
			}
			wantWritten(t, w, api.MaxBits-room, want)
		}
		mustPut(t, w, number{int(uint64(1)<<room - 1), room})
		wantWritten(t, w, api.MaxBits, full)
	}
}

func TestPutIntoFullWriter(t *testing.T) {
	w := filled(t, api.MaxBits)
	full := bytes.Repeat([]byte{255}, api.MaxBits/8)
	for _, x := range []struct {
		v, n int
		e    api.Errno
	}{
		{0, 1, api.ErrLong}, {1, 1, api.ErrLong}, {api.MaxInt, 63, api.ErrLong},
		{0, 0, api.OK},
		// Both are wrong here: the promise names the arguments first.
		{0, 64, api.ErrArg}, {2, 1, api.ErrArg}, {-1, 1, api.ErrArg}, {0, -1, api.ErrArg},
	} {
		if e := w.Put(x.v, x.n); e != x.e {
			t.Errorf("Put(%d, %d): %v, want %v", x.v, x.n, e, x.e)
		}
		wantWritten(t, w, api.MaxBits, full)
	}
}

// P1.2

func TestReadNothing(t *testing.T) {
	for _, b := range [][]byte{nil, {}} {
		r := Read(b)
		if r.Rest() != 0 || !r.Done() {
			t.Error(r.Rest(), r.Done())
		}
		wantTaken(t, r, 0, 0, api.OK)
		wantTaken(t, r, 1, 0, api.ErrEnd)
	}
}

func TestTakeHighestBitFirst(t *testing.T) {
	r := Read([]byte{175, 240})
	wantTaken(t, r, 3, 5, api.OK)
	wantTaken(t, r, 1, 0, api.OK)
	wantTaken(t, r, 8, 255, api.OK)
	if r.Rest() != 4 || !r.Done() {
		t.Error(r.Rest(), r.Done())
	}
	wantTaken(t, r, 5, 0, api.ErrEnd)
	wantTaken(t, r, 64, 0, api.ErrArg)
	wantTaken(t, r, 4, 0, api.OK)
	if r.Rest() != 0 || !r.Done() {
		t.Error(r.Rest(), r.Done())
	}
	r = Read([]byte{0x12, 0x34, 0x56})
	wantTaken(t, r, 4, 1, api.OK)
	wantTaken(t, r, 12, 0x234, api.OK)
	wantTaken(t, r, 0, 0, api.OK)
	wantTaken(t, r, 8, 0x56, api.OK)
	wantTaken(t, r, 0, 0, api.OK)
}

func TestTakeEveryWidthFromEveryPlace(t *testing.T) {
	b := []byte{0xA7, 0x39, 0xF0, 0x5C, 0x81, 0xFF, 0x00, 0xE6, 0x1B}
	digits := ""
	for _, x := range b {
		digits += number{int(x), 8}.digits()
	}
	for shift := range 10 {
		for n := range 64 {
			if shift+n > len(digits) {
				continue
			}
			want := 0
			if n > 0 {
				x, err := strconv.ParseInt(digits[shift:shift+n], 2, 64)
				if err != nil {
					t.Fatal(err)
				}
				want = int(x)
			}
			r := Read(b)
			r.Take(shift)
			wantTaken(t, r, n, want, api.OK)
			if r.Rest() != len(digits)-shift-n {
				t.Errorf("%d behind %d: Rest: %d", n, shift, r.Rest())
			}
		}
	}
}

func TestTakeGreatest(t *testing.T) {
	r := Read(bytes.Repeat([]byte{255}, 8))
	wantTaken(t, r, 63, api.MaxInt, api.OK)
	wantTaken(t, r, 1, 1, api.OK)
}

func TestTakeWrongArguments(t *testing.T) {
	for _, b := range [][]byte{nil, {0xC1}, bytes.Repeat([]byte{0xC1}, 20)} {
		for _, n := range []int{-1, -64, api.MinInt, 64, 65, 128, api.MaxInt} {
			r := Read(b)
			wantTaken(t, r, n, 0, api.ErrArg)
			if r.Rest() != 8*len(b) {
				t.Errorf("Take(%d): Rest: %d", n, r.Rest())
			}
			if len(b) > 0 {
				wantTaken(t, r, 8, 0xC1, api.OK)
			}
		}
	}
}

func TestTakeMoreThanRemainsRemovesNone(t *testing.T) {
	for size := range 8 {
		for taken := range 8*size + 1 {
			rest := 8*size - taken
			for n := rest + 1; n <= 63; n++ {
				r := Read(bytes.Repeat([]byte{255}, size))
				r.Take(taken)
				wantTaken(t, r, n, 0, api.ErrEnd)
				if r.Rest() != rest {
					t.Fatalf("Take(%d) of %d: Rest: %d", n, rest, r.Rest())
				}
				wantTaken(t, r, rest, 1<<rest-1, api.OK)
			}
		}
	}
}

func TestDone(t *testing.T) {
	for _, x := range []struct {
		b     []byte
		taken int
		want  bool
	}{
		{nil, 0, true},
		{[]byte{0}, 0, false},
		{[]byte{0}, 1, true},
		{[]byte{0}, 7, true},
		{[]byte{0}, 8, true},
		{[]byte{255}, 8, true},
		{[]byte{255}, 7, false},
		{[]byte{255}, 1, false},
		{[]byte{128}, 0, false},
		{[]byte{128}, 1, true},
		{[]byte{255, 0}, 0, false},
		{[]byte{255, 0}, 7, false},
		{[]byte{255, 0}, 8, false},
		{[]byte{255, 0}, 9, true},
		{[]byte{0, 0}, 8, false},
		{[]byte{0, 1}, 9, false},
	} {
		r := Read(x.b)
		r.Take(x.taken)
		if r.Done() != x.want {
			t.Errorf("%v, %d taken: %v", x.b, x.taken, r.Done())
		}
		if r.Rest() != 8*len(x.b)-x.taken {
			t.Errorf("%v, %d taken: Done removed bits", x.b, x.taken)
		}
	}
}

func TestDoneFindsEachBit(t *testing.T) {
	for taken := 1; taken <= 8; taken++ {
		for place := range 8 {
			r := Read([]byte{170, 1 << place})
			r.Take(8)
			r.Take(taken)
			if want := place >= 8-taken; r.Done() != want {
				t.Errorf("%d taken, a bit at %d: %v", taken, place, r.Done())
			}
		}
	}
}

// A reader has no limit of its own: MaxBits is the writer's.
func TestReadMoreThanMaxBits(t *testing.T) {
	r := Read(bytes.Repeat([]byte{0x5A}, api.MaxBits/8+1))
	if r.Rest() != api.MaxBits+8 {
		t.Fatal(r.Rest())
	}
	for range api.MaxBits / 32 {
		if v, e := r.Take(32); v != 0x5A5A5A5A || e != api.OK {
			t.Fatal(v, e)
		}
	}
	wantTaken(t, r, 8, 0x5A, api.OK)
	wantTaken(t, r, 1, 0, api.ErrEnd)
}

// P1.3

func TestReadKeepsNoArgument(t *testing.T) {
	whole := []byte{1, 2, 3, 4, 5, 6}
	b := whole[1:3]
	r := Read(b)
	wantTaken(t, r, 4, 0, api.OK)
	b[0], b[1] = 255, 255
	wantTaken(t, r, 12, 0x203, api.OK)
	r.Done()
	wantTaken(t, r, 1, 0, api.ErrEnd)
	if !bytes.Equal(whole, []byte{1, 255, 255, 4, 5, 6}) {
		t.Error(whole)
	}
}

func TestBytesAreNew(t *testing.T) {
	w := New()
	mustPut(t, w, someNumbers(40, 3)...)
	want := w.Bytes()
	first, second := w.Bytes(), w.Bytes()
	first = first[:cap(first)]
	clear(first)
	second = second[:cap(second)]
	if !bytes.Equal(second[:len(want)], want) || !bytes.Equal(w.Bytes(), want) {
		t.Error("two results share memory")
	}
	length := w.Len()
	kept := w.Bytes()
	spare := kept[len(kept):cap(kept)]
	for i := range spare {
		spare[i] = 77
	}
	mustPut(t, w, number{api.MaxInt, 63}, number{api.MaxInt, 63})
	if !bytes.Equal(kept, want) || w.Len() != length+126 {
		t.Error("a result changed with a later Put")
	}
	for i := range spare {
		if spare[i] != 77 {
			t.Error("a later Put wrote behind a result")
		}
	}
}

func TestObjectsAreApart(t *testing.T) {
	a, b := New(), New()
	mustPut(t, a, number{255, 8})
	wantWritten(t, b, 0, nil)
	src := []byte{1, 2}
	r, s := Read(src), Read(src)
	wantTaken(t, r, 16, 0x102, api.OK)
	wantTaken(t, s, 16, 0x102, api.OK)
}

// P1.4

func TestPutThenTaken(t *testing.T) {
	for seed := range uint64(50) {
		l := someNumbers(int(seed)*7, seed)
		w := New()
		digits := ""
		for _, x := range l {
			mustPut(t, w, x)
			digits += x.digits()
		}
		wantWritten(t, w, len(digits), packed(digits))
		r := Read(w.Bytes())
		for _, x := range l {
			wantTaken(t, r, x.n, x.v, api.OK)
		}
		if !r.Done() {
			t.Errorf("seed %d: not done, %d bits are left", seed, r.Rest())
		}
	}
}

func TestTakenThenPut(t *testing.T) {
	for seed := range uint64(50) {
		var b []byte
		for _, x := range someNumbers(int(seed)*3, seed+100) {
			b = append(b, byte(x.v), byte(x.v>>20))
		}
		r, w := Read(b), New()
		for _, x := range someNumbers(len(b)+20, seed+200) {
			n := min(x.n, r.Rest())
			v, e := r.Take(n)
			if e != api.OK {
				t.Fatal(e)
			}
			mustPut(t, w, number{v, n})
		}
		for r.Rest() > 0 {
			v, _ := r.Take(1)
			mustPut(t, w, number{v, 1})
		}
		wantWritten(t, w, 8*len(b), b)
	}
}

// W9

func TestErrorsTellTheirNumbers(t *testing.T) {
	for e, want := range map[api.Errno]string{api.ErrArg: "error 1", api.ErrLong: "error 2", api.ErrEnd: "error 3"} {
		if e.Error() != want {
			t.Errorf("%q, want %q", e.Error(), want)
		}
	}
}
