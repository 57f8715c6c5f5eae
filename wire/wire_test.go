package wire

import (
	"bytes"
	"encoding/binary"
	"hash/crc32"
	"math/rand"
	"strings"
	"testing"

	"tiltyard/api"
)

// edges are the numbers at which a varint's length or sign changes, and their neighbours.
func edges() []int {
	l := []int{api.MinInt, api.MinInt + 1, api.MaxInt - 1, api.MaxInt}
	for shift := range 63 {
		for d := -2; d <= 2; d++ {
			l = append(l, 1<<shift+d, -1<<shift+d)
		}
	}
	return l
}

// someNumbers is a fixed list of numbers of all lengths.
func someNumbers(count int, seed int64) []int {
	r := rand.New(rand.NewSource(seed))
	var l []int
	for range count {
		l = append(l, int(r.Uint64())>>r.Intn(64))
	}
	return l
}

func someBytes(count int, seed int64) []byte {
	b := make([]byte, count)
	rand.New(rand.NewSource(seed)).Read(b)
	return b
}

// times is that many of one byte, followed by others.
func times(count int, x byte, then ...byte) []byte {
	return append(bytes.Repeat([]byte{x}, count), then...)
}

type reader func(b []byte, at int) (int, int, api.Errno)

func wantRead(t *testing.T, read reader, b []byte, at, n, next int, e api.Errno) {
	t.Helper()
	if gotN, gotNext, gotE := read(b, at); gotN != n || gotNext != next || gotE != e {
		t.Errorf("%v at %d: %d, %d, %d, want %d, %d, %d", b, at, gotN, gotNext, gotE, n, next, e)
	}
}

func wantText(t *testing.T, b []byte, at int, s string, next int, e api.Errno) {
	t.Helper()
	if gotS, gotNext, gotE := ReadText(b, at); gotS != s || gotNext != next || gotE != e {
		t.Errorf("%d bytes at %d: %d bytes, %d, %d, want %d bytes, %d, %d", len(b), at, len(gotS), gotNext, gotE, len(s), next, e)
	}
}

// P2.1

func TestNum(t *testing.T) {
	for _, x := range []struct {
		n    int
		want []byte
	}{
		{0, []byte{0}}, {1, []byte{1}}, {127, []byte{127}},
		{128, []byte{128, 1}}, {300, []byte{172, 2}}, {16383, []byte{255, 127}}, {16384, []byte{128, 128, 1}},
		{1 << 56, times(8, 128, 1)}, {1<<56 - 1, times(7, 255, 127)},
		{api.MaxInt, times(8, 255, 127)},
	} {
		for _, b := range [][]byte{nil, {}, {7}, {128, 0, 255}} {
			if got, e := Num(b, x.n); !bytes.Equal(got, append(bytes.Clone(b), x.want...)) || e != api.OK {
				t.Errorf("Num(%v, %d): %v, %d", b, x.n, got, e)
			}
		}
	}
}

func TestNumOfAllLengths(t *testing.T) {
	for _, n := range append(edges(), someNumbers(2000, 1)...) {
		got, e := Num(nil, n)
		if n < 0 {
			if len(got) != 0 || e != api.ErrArg {
				t.Errorf("Num(%d): %v, %d", n, got, e)
			}
			continue
		}
		if want := binary.AppendUvarint(nil, uint64(n)); !bytes.Equal(got, want) || e != api.OK {
			t.Errorf("Num(%d): %v, %d, want %v", n, got, e, want)
		}
	}
}

func TestNumRefusesNegatives(t *testing.T) {
	for _, n := range []int{-1, -2, -128, api.MinInt} {
		for _, b := range [][]byte{nil, {1, 2, 3}} {
			if got, e := Num(b, n); len(got) != 0 || e != api.ErrArg {
				t.Errorf("Num(%v, %d): %v, %d", b, n, got, e)
			}
		}
	}
}

func TestInt(t *testing.T) {
	for _, x := range []struct {
		n    int
		want []byte
	}{
		{0, []byte{0}}, {-1, []byte{1}}, {1, []byte{2}}, {-2, []byte{3}}, {2, []byte{4}},
		{63, []byte{126}}, {-64, []byte{127}}, {64, []byte{128, 1}}, {-65, []byte{129, 1}},
		{api.MaxInt, times(1, 254, times(8, 255, 1)...)}, {api.MinInt, times(9, 255, 1)},
		{1<<62 - 1, times(1, 254, times(7, 255, 127)...)}, {-1 << 62, times(8, 255, 127)},
	} {
		for _, b := range [][]byte{nil, {}, {7}, {128, 0, 255}} {
			if got := Int(b, x.n); !bytes.Equal(got, append(bytes.Clone(b), x.want...)) {
				t.Errorf("Int(%v, %d): %v", b, x.n, got)
			}
		}
	}
}

func TestIntOfAllLengths(t *testing.T) {
	for _, n := range append(edges(), someNumbers(2000, 2)...) {
		if got, want := Int(nil, n), binary.AppendVarint(nil, int64(n)); !bytes.Equal(got, want) {
			t.Errorf("Int(%d): %v, want %v", n, got, want)
		}
	}
}

// P2.2

func TestReadNum(t *testing.T) {
	for _, x := range []struct {
		b           []byte
		at, n, next int
	}{
		{[]byte{0}, 0, 0, 1}, {[]byte{127}, 0, 127, 1}, {[]byte{128, 1}, 0, 128, 2},
		{[]byte{172, 2, 9}, 0, 300, 2}, {[]byte{172, 2, 9}, 1, 2, 2}, {[]byte{172, 2, 9}, 2, 9, 3},
		{[]byte{0, 0, 0}, 1, 0, 2}, {[]byte{128, 0, 5}, 1, 0, 2},
		{times(8, 255, 127), 0, api.MaxInt, 9}, {times(8, 255, 127, 255), 0, api.MaxInt, 9},
		{times(8, 128, 1, 0), 0, 1 << 56, 9}, {times(9, 128, 1), 1, 1 << 56, 10},
	} {
		wantRead(t, ReadNum, x.b, x.at, x.n, x.next, api.OK)
	}
}

func TestReadInt(t *testing.T) {
	for _, x := range []struct {
		b           []byte
		at, n, next int
	}{
		{[]byte{0}, 0, 0, 1}, {[]byte{1}, 0, -1, 1}, {[]byte{2}, 0, 1, 1}, {[]byte{127}, 0, -64, 1},
		{[]byte{126, 3}, 1, -2, 2}, {[]byte{128, 1, 128}, 0, 64, 2}, {[]byte{129, 1}, 0, -65, 2},
		{times(9, 255, 1), 0, api.MinInt, 10}, {times(9, 255, 1, 255), 0, api.MinInt, 10},
		{times(1, 254, times(8, 255, 1)...), 0, api.MaxInt, 10},
		{times(9, 128, 1), 0, 1 << 62, 10}, {times(10, 128, 1), 1, 1 << 62, 11},
		{times(8, 255, 127), 0, -1 << 62, 9}, {times(9, 128, 1), 1, 1 << 55, 10},
	} {
		wantRead(t, ReadInt, x.b, x.at, x.n, x.next, api.OK)
	}
}

// theReaders are both kinds of numbers, with the most bytes of each.
func theReaders() []struct {
	read reader
	most int
} {
	return []struct {
		read reader
		most int
	}{{ReadNum, 9}, {ReadInt, 10}}
}

func TestReadOutsideTheBytes(t *testing.T) {
	for _, x := range theReaders() {
		for _, b := range [][]byte{nil, {}, {1}, {128}, {128, 0}, times(12, 255)} {
			for _, at := range []int{-1, -2, api.MinInt, len(b) + 1, len(b) + 2, api.MaxInt} {
				wantRead(t, x.read, b, at, 0, 0, api.ErrArg)
			}
			wantRead(t, x.read, b, len(b), 0, 0, api.ErrEnd)
		}
	}
}

func TestReadWhatIsCutOff(t *testing.T) {
	for _, x := range theReaders() {
		for before := range 3 {
			for there := range 13 {
				for _, y := range []byte{128, 255} {
					b := append(make([]byte, before), times(there, y)...)
					want := api.ErrEnd
					if there >= x.most {
						want = api.ErrNum
					}
					wantRead(t, x.read, b, before, 0, 0, want)
				}
			}
		}
	}
}

func TestReadTooManyBytes(t *testing.T) {
	for _, x := range theReaders() {
		for _, last := range []byte{0, 1, 127, 255} {
			wantRead(t, x.read, times(x.most, 128, last), 0, 0, 0, api.ErrNum)
			wantRead(t, x.read, times(x.most, 255, last), 0, 0, 0, api.ErrNum)
		}
	}
}

func TestReadLastByteZero(t *testing.T) {
	for _, x := range theReaders() {
		for size := 1; size < x.most; size++ {
			for _, y := range []byte{128, 129, 255} {
				wantRead(t, x.read, times(size, y, 0), 0, 0, 0, api.ErrNum)
				wantRead(t, x.read, times(size, y, 0, 1), 0, 0, 0, api.ErrNum)
			}
		}
	}
}

func TestReadIntTenthByte(t *testing.T) {
	for last := range 256 {
		b := times(9, 255, byte(last))
		if last == 1 {
			wantRead(t, ReadInt, b, 0, api.MinInt, 10, api.OK)
		} else {
			wantRead(t, ReadInt, b, 0, 0, 0, api.ErrNum)
		}
	}
	for last := 1; last < 128; last++ {
		if n, next, e := ReadInt(times(8, 255, byte(last)), 0); n >= 0 || next != 9 || e != api.OK {
			t.Errorf("nine bytes, the last %d: %d, %d, %d", last, n, next, e)
		}
	}
}

// P2.3

func TestText(t *testing.T) {
	for _, x := range []struct {
		s    string
		want []byte
	}{
		{"", []byte{0}}, {"ab", []byte{2, 97, 98}}, {"\x00\xff\x80", []byte{3, 0, 255, 128}}, {"é", []byte{2, 195, 169}},
		{strings.Repeat("x", 128), append([]byte{128, 1}, times(128, 'x')...)},
		{strings.Repeat("x", api.MaxText), append([]byte{128, 128, 4}, times(api.MaxText, 'x')...)},
	} {
		for _, before := range [][]byte{nil, {}, {9}, {255, 0, 128}} {
			whole := append(bytes.Clone(before), x.want...)
			if got, e := Text(before, x.s); !bytes.Equal(got, whole) || e != api.OK {
				t.Errorf("Text(%v, %d bytes): %d bytes, %d", before, len(x.s), len(got), e)
			}
			wantText(t, whole, len(before), x.s, len(whole), api.OK)
			wantText(t, append(whole, 128, 7), len(before), x.s, len(whole), api.OK)
		}
	}
}

func TestTextTooLong(t *testing.T) {
	for _, size := range []int{api.MaxText + 1, 2 * api.MaxText} {
		s := strings.Repeat("x", size)
		for _, b := range [][]byte{nil, {1, 2}} {
			if got, e := Text(b, s); len(got) != 0 || e != api.ErrLong {
				t.Errorf("%d bytes: %d bytes, %d", size, len(got), e)
			}
		}
		b := append(binary.AppendUvarint(nil, uint64(size)), s...)
		wantText(t, b, 0, "", 0, api.ErrLong)
	}
}

func TestReadTextWrong(t *testing.T) {
	huge := times(8, 255, 127)
	for _, x := range []struct {
		b  []byte
		at int
		e  api.Errno
	}{
		{nil, -1, api.ErrArg}, {nil, 1, api.ErrArg}, {[]byte{0}, 2, api.ErrArg}, {[]byte{0}, api.MaxInt, api.ErrArg},
		{nil, 0, api.ErrEnd}, {[]byte{0}, 1, api.ErrEnd}, {[]byte{128}, 0, api.ErrEnd}, {times(8, 255), 0, api.ErrEnd},
		{[]byte{128, 0}, 0, api.ErrNum}, {times(9, 255, 1), 0, api.ErrNum},
		// Too long, though too few bytes remain as well: the promise names the length first.
		{[]byte{129, 128, 4}, 0, api.ErrLong}, {huge, 0, api.ErrLong}, {append([]byte{5}, huge...), 1, api.ErrLong},
		{[]byte{128, 128, 4}, 0, api.ErrEnd}, {append([]byte{128, 128, 4}, times(api.MaxText-1, 'x')...), 0, api.ErrEnd},
		{[]byte{3, 97}, 0, api.ErrEnd}, {[]byte{1}, 0, api.ErrEnd}, {[]byte{2, 97, 2, 98}, 2, api.ErrEnd},
	} {
		wantText(t, x.b, x.at, "", 0, x.e)
	}
}

// P2.4

func TestSumOfKnownBytes(t *testing.T) {
	for _, x := range []struct {
		s    string
		want int
	}{
		{"", 0}, {"123456789", 3421780262}, {"a", 0xe8b7be43}, {"\x00", 0xd202ef8d}, {"\xff\xff\xff\xff", 0xffffffff},
	} {
		if got := Sum([]byte(x.s)); got != x.want {
			t.Errorf("Sum(%q): %d, want %d", x.s, got, x.want)
		}
	}
	if got := Sum(nil); got != 0 {
		t.Errorf("Sum of nothing: %d", got)
	}
}

func TestSumOfAllBytes(t *testing.T) {
	for x := range 256 {
		b := []byte{byte(x)}
		if got, want := Sum(b), int(crc32.ChecksumIEEE(b)); got != want {
			t.Errorf("Sum(%v): %d, want %d", b, got, want)
		}
	}
	for size := range 300 {
		b := someBytes(size, int64(size))
		if got, want := Sum(b), int(crc32.ChecksumIEEE(b)); got != want {
			t.Errorf("Sum of %d bytes: %d, want %d", size, got, want)
		}
	}
}

func TestFrame(t *testing.T) {
	for _, x := range []struct{ b, want []byte }{
		{nil, []byte{0, 0, 0, 0}},
		{[]byte{}, []byte{0, 0, 0, 0}},
		{[]byte("a"), []byte{97, 67, 190, 183, 232}},
		{[]byte("123456789"), append([]byte("123456789"), 0x26, 0x39, 0xf4, 0xcb)},
	} {
		if got := Frame(x.b); !bytes.Equal(got, x.want) {
			t.Errorf("Frame(%v): %v, want %v", x.b, got, x.want)
		}
	}
}

func TestOpen(t *testing.T) {
	for size := range 300 {
		b := someBytes(size, int64(size))
		whole := binary.LittleEndian.AppendUint32(bytes.Clone(b), crc32.ChecksumIEEE(b))
		if got := Frame(b); !bytes.Equal(got, whole) {
			t.Errorf("Frame of %d bytes: %v, want %v", size, got, whole)
		}
		if got, is := Open(whole); !bytes.Equal(got, b) || !is {
			t.Errorf("Open of %d bytes: %v, %v", size, got, is)
		}
	}
}

func TestOpenWrong(t *testing.T) {
	swapped := Frame([]byte("tilt"))
	swapped[4], swapped[7] = swapped[7], swapped[4]
	for _, b := range [][]byte{
		nil, {}, {0}, {0, 0}, {0, 0, 0}, {1, 2, 3},
		{0, 0, 0, 1}, {1, 0, 0, 0}, {255, 255, 255, 255}, {0, 0, 0, 0, 0},
		swapped, append(Frame([]byte("a")), 0), Frame([]byte("abc"))[1:], Frame([]byte("abc"))[:6],
	} {
		if got, is := Open(b); len(got) != 0 || is {
			t.Errorf("Open(%v): %v, %v", b, got, is)
		}
	}
}

// P2.5

// TestNothingIsShared: every result is written over whole, with its spare capacity, and what was handed in stays as it was.
func TestNothingIsShared(t *testing.T) {
	frame := Frame([]byte("tilt"))
	text, _ := Text([]byte("tilt"), "yard")
	for name, call := range map[string]func(b []byte) []byte{
		"Num":      func(b []byte) []byte { l, _ := Num(b, 300); return l },
		"Num of 0": func(b []byte) []byte { l, _ := Num(b, 0); return l },
		"Int":      func(b []byte) []byte { return Int(b, -300) },
		"Text":     func(b []byte) []byte { l, _ := Text(b, "yard"); return l },
		"no text":  func(b []byte) []byte { l, _ := Text(b, ""); return l },
		"Frame":    Frame,
		"Open":     func(b []byte) []byte { l, _ := Open(b); return l },
		"ReadNum":  func(b []byte) []byte { ReadNum(b, 0); return nil },
		"ReadInt":  func(b []byte) []byte { ReadInt(b, 0); return nil },
		"ReadText": func(b []byte) []byte { ReadText(b, 0); return nil },
		"Sum":      func(b []byte) []byte { Sum(b); return nil },
	} {
		for _, given := range [][]byte{{}, []byte("tilt"), frame, text} {
			whole := append(bytes.Clone(given), times(100, 0x5A)...)
			before := bytes.Clone(whole)
			b := whole[:len(given)]
			first := call(b)
			if !bytes.Equal(whole, before) {
				t.Errorf("%s of %v changed what it was given", name, given)
			}
			second := call(b)
			kept := bytes.Clone(second)
			first = first[:cap(first)]
			for i := range first {
				first[i] ^= 255
			}
			if !bytes.Equal(whole, before) || !bytes.Equal(second, kept) {
				t.Errorf("%s of %v: its result shares memory", name, given)
			}
			for i := range whole {
				whole[i] ^= 255
			}
			if !bytes.Equal(second, kept) {
				t.Errorf("%s of %v kept what it was given", name, given)
			}
		}
	}
}

func TestReadTextIsACopy(t *testing.T) {
	b := []byte{2, 97, 98}
	s, _, _ := ReadText(b, 0)
	b[1] = 120
	if s != "ab" {
		t.Error(s)
	}
}

// P2.6

func TestThereAndBack(t *testing.T) {
	for _, n := range append(edges(), someNumbers(500, 3)...) {
		for _, before := range [][]byte{nil, {0}, {128, 255}, times(12, 255)} {
			for _, after := range [][]byte{nil, {0}, {1, 2}, times(12, 255)} {
				b := Int(before, n)
				wantRead(t, ReadInt, append(b, after...), len(before), n, len(b), api.OK)
				if n >= 0 {
					b, _ = Num(before, n)
					wantRead(t, ReadNum, append(b, after...), len(before), n, len(b), api.OK)
				}
			}
		}
	}
}

// onlyForm: what is read at the start of b was written in exactly this form.
func onlyForm(t *testing.T, b []byte) {
	t.Helper()
	if n, next, e := ReadNum(b, 0); e == api.OK {
		if again, _ := Num(nil, n); !bytes.Equal(again, b[:next]) {
			t.Errorf("%v is read as %d, which is written %v", b[:next], n, again)
		}
	}
	if n, next, e := ReadInt(b, 0); e == api.OK {
		if again := Int(nil, n); !bytes.Equal(again, b[:next]) {
			t.Errorf("%v is read as %d, which is written %v", b[:next], n, again)
		}
	}
	if s, next, e := ReadText(b, 0); e == api.OK {
		if again, _ := Text(nil, s); !bytes.Equal(again, b[:next]) {
			t.Errorf("%v is read as %q, which is written %v", b[:next], s, again)
		}
	}
}

func TestOneFormOfEach(t *testing.T) {
	for x := range 1 << 16 {
		onlyForm(t, []byte{byte(x), byte(x >> 8)})
	}
	r := rand.New(rand.NewSource(4))
	for range 50000 {
		b := make([]byte, 12)
		r.Read(b)
		for i := range r.Intn(11) {
			b[i] |= 128
		}
		onlyForm(t, b)
	}
}

func TestOneChangedByteShutsAFrame(t *testing.T) {
	for _, size := range []int{0, 1, 2, 5, 40} {
		frame := Frame(someBytes(size, int64(size)))
		for at := range frame {
			for change := 1; change < 256; change++ {
				b := bytes.Clone(frame)
				b[at] ^= byte(change)
				if got, is := Open(b); len(got) != 0 || is {
					t.Fatalf("%v opened as %v", b, got)
				}
			}
		}
	}
}

func TestUpToFourChangedBytesShutAFrame(t *testing.T) {
	r := rand.New(rand.NewSource(5))
	for range 50000 {
		frame := Frame(someBytes(r.Intn(30), r.Int63()))
		count := 2 + r.Intn(3)
		at := r.Intn(len(frame) - count + 1)
		for i := range count {
			frame[at+i] ^= byte(1 + r.Intn(255))
		}
		if got, is := Open(frame); len(got) != 0 || is {
			t.Fatalf("%d bytes changed at %d: %v opened as %v", count, at, frame, got)
		}
	}
}

// The errors have the numbers that the document lists.
func TestErrorNumbers(t *testing.T) {
	_, arg := Num(nil, -1)
	_, long := Text(nil, strings.Repeat("x", api.MaxText+1))
	_, _, end := ReadNum(nil, 0)
	_, _, num := ReadNum([]byte{128, 0}, 0)
	if arg != 1 || long != 2 || end != 3 || num != 20 {
		t.Error(int(arg), int(long), int(end), int(num))
	}
}
