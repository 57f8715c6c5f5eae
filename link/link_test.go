package link

import (
	"bytes"
	"encoding/binary"
	"fmt"
	"hash/crc32"
	"math/big"
	"math/rand"
	"slices"
	"testing"

	"tiltyard/api"
)

// gram is a datagram as the chapter's table has it, right or wrong.
type gram struct {
	flag         byte
	last         uint16
	bits         uint32
	number       uint16
	index, count byte
	body         []byte
}

func (g gram) bytes() []byte {
	b := binary.BigEndian.AppendUint16([]byte{g.flag}, g.last)
	b = binary.BigEndian.AppendUint32(b, g.bits)
	b = binary.BigEndian.AppendUint16(b, g.number)
	return framed(append(append(b, g.index, g.count), g.body...))
}

func framed(b []byte) []byte {
	return binary.LittleEndian.AppendUint32(bytes.Clone(b), crc32.ChecksumIEEE(b))
}

// parsed is the way back, of a datagram that Send made.
func parsed(t *testing.T, d []byte) gram {
	t.Helper()
	if len(d) < 15 || !bytes.Equal(framed(d[:len(d)-4]), d) {
		t.Fatalf("%v is no frame of 11 bytes or more", d)
	}
	b := d[:len(d)-4]
	return gram{b[0], binary.BigEndian.Uint16(b[1:]), binary.BigEndian.Uint32(b[3:]), binary.BigEndian.Uint16(b[7:]), b[9], b[10], b[11:]}
}

// whole is the one datagram of a message of one part.
func whole(number int, body string) []byte {
	return gram{number: uint16(number), count: 1, body: []byte(body)}.bytes()
}

// piece is a part that is not the last one.
func piece(number, index, count int) []byte {
	return gram{number: uint16(number), index: byte(index), count: byte(count), body: filled(api.PartSize, byte(index))}.bytes()
}

// end is the last part of a message, of one byte.
func end(number, count int) []byte {
	return gram{number: uint16(number), index: byte(count - 1), count: byte(count), body: []byte{byte(count)}}.bytes()
}

// acking is a datagram that acknowledges, and is of a message of its own.
func acking(number, last int, bits uint32) []byte {
	return gram{flag: 1, last: uint16(last), bits: bits, number: uint16(number), count: 1}.bytes()
}

func filled(size int, x byte) []byte { return bytes.Repeat([]byte{x}, size) }

func someBytes(r *rand.Rand, size int) []byte {
	b := make([]byte, size)
	r.Read(b)
	return b
}

func send(t *testing.T, l *Link, b []byte) ([][]byte, int) {
	t.Helper()
	d, n, e := l.Send(b)
	if e != api.OK {
		t.Fatalf("Send of %d bytes: %d", len(b), e)
	}
	return d, n
}

// sendMany sends that many messages without a byte.
func sendMany(t *testing.T, l *Link, count int) {
	t.Helper()
	for range count {
		send(t, l, nil)
	}
}

func wantWaits(t *testing.T, l *Link, d []byte) {
	t.Helper()
	if m, is, e := l.Receive(d); len(m) != 0 || is || e != api.OK {
		t.Errorf("Receive: %v, %v, %d, want that the part waits", m, is, e)
	}
}

func wantMessage(t *testing.T, l *Link, d []byte, want []byte) {
	t.Helper()
	if m, is, e := l.Receive(d); !bytes.Equal(m, want) || !is || e != api.OK {
		t.Errorf("Receive: %d bytes, %v, %d, want %d bytes", len(m), is, e, len(want))
	}
}

func wantRefused(t *testing.T, l *Link, d []byte, want api.Errno) {
	t.Helper()
	if m, is, e := l.Receive(d); len(m) != 0 || is || e != want {
		t.Errorf("Receive(%v): %v, %v, %d, want %d", d, m, is, e, want)
	}
}

func wantLast(t *testing.T, l *Link, n int, want bool) {
	t.Helper()
	if got, is := l.Last(); got != n || is != want {
		t.Errorf("Last: %d, %v, want %d, %v", got, is, n, want)
	}
}

func wantAcked(t *testing.T, l *Link, want ...int) {
	t.Helper()
	if got := l.Acked(); !slices.Equal(got, want) {
		t.Errorf("Acked: %v, want %v", got, want)
	}
}

// wantTold asks what the next message acknowledges.
func wantTold(t *testing.T, l *Link, flag byte, last uint16, bits uint32) {
	t.Helper()
	d, _ := send(t, l, nil)
	if g := parsed(t, d[0]); g.flag != flag || g.last != last || g.bits != bits {
		t.Errorf("told: %d, %d, %b, want %d, %d, %b", g.flag, g.last, g.bits, flag, last, bits)
	}
}

func span(from, to int) []int {
	var l []int
	for n := from; n < to; n++ {
		l = append(l, n&65535)
	}
	return l
}

func TestErrorNumbers(t *testing.T) {
	l := New(0)
	_, _, long := l.Send(make([]byte, api.MaxMessage+1))
	_, _, wrong := l.Receive(nil)
	l.Receive(whole(3, ""))
	_, _, stale := l.Receive(whole(3, ""))
	if long != 2 || wrong != 70 || stale != 71 {
		t.Error(int(long), int(wrong), int(stale))
	}
}

// The chapter's examples.
func TestExamples(t *testing.T) {
	a, b := New(65535), New(5)
	d, n := send(t, a, []byte("hi"))
	if len(d) != 1 || n != 65535 || !bytes.Equal(d[0], framed([]byte{0, 0, 0, 0, 0, 0, 0, 255, 255, 0, 1, 104, 105})) {
		t.Fatal(d, n)
	}
	wantMessage(t, b, d[0], []byte("hi"))
	wantRefused(t, b, d[0], api.ErrStale)
	wantLast(t, b, 65535, true)
	d, n = send(t, b, []byte("yo"))
	if n != 5 || !bytes.Equal(d[0][:11], []byte{1, 255, 255, 0, 0, 0, 0, 0, 5, 0, 1}) {
		t.Fatal(d, n)
	}
	wantMessage(t, a, d[0], []byte("yo"))
	wantAcked(t, a, 65535)
}

// P7.1

func TestNewer(t *testing.T) {
	for _, x := range []struct {
		a, b int
		want bool
	}{
		{0, 65535, true}, {5, 5, false}, {0, 32768, false}, {65535, 0, false}, {32768, 0, false},
		{1, 0, true}, {0, 1, false}, {32767, 0, true}, {32768, 1, true}, {0, 32769, true}, {0, 32767, false},
		{65536, 0, false}, {65537, 0, true}, {65536 + 32767, 0, true}, {65536 + 32768, 0, false},
		{-1, 0, false}, {0, -1, true}, {-1, -2, true}, {-65535, 0, true}, {-32768, 0, false}, {-32769, 0, true},
		{api.MaxInt, api.MaxInt, false}, {api.MinInt, api.MaxInt, true}, {api.MaxInt, api.MinInt, false}, {api.MinInt, api.MinInt + 1, false},
		{api.MinInt, 0, false}, {0, api.MinInt, false}, {api.MinInt, -1, true}, {api.MaxInt, -2, true}, {1, api.MinInt, true},
	} {
		if got := Newer(x.a, x.b); got != x.want {
			t.Errorf("Newer(%d, %d): %v", x.a, x.b, got)
		}
	}
}

func TestNewerByEachDifference(t *testing.T) {
	for _, b := range []int{0, 1, 32767, 32768, 65535, -7, 1 << 40, api.MinInt} {
		for d := range 65536 {
			if got, want := Newer(b+d, b), d >= 1 && d <= 32767; got != want {
				t.Fatalf("Newer(%d + %d, it): %v", b, d, got)
			}
		}
	}
}

func TestNewerOfAnyNumbers(t *testing.T) {
	r := rand.New(rand.NewSource(1))
	for range 20000 {
		a, b := int(r.Uint64())>>r.Intn(64), int(r.Uint64())>>r.Intn(64)
		d := new(big.Int).Sub(big.NewInt(int64(a)), big.NewInt(int64(b)))
		n := d.Mod(d, big.NewInt(65536)).Int64()
		if got, want := Newer(a, b), n >= 1 && n <= 32767; got != want {
			t.Fatalf("Newer(%d, %d): %v", a, b, got)
		}
	}
}

func TestNew(t *testing.T) {
	for _, x := range []struct{ first, want int }{
		{0, 0}, {5, 5}, {65535, 65535}, {65536, 0}, {65537, 1}, {1 << 20, 0}, {1<<40 + 9, 9}, {-1, 65535}, {-65535, 1},
		{-65536, 0}, {-65537, 65535}, {api.MaxInt, 65535}, {api.MinInt, 0}, {api.MinInt + 3, 3},
	} {
		l := New(x.first)
		wantLast(t, l, 0, false)
		wantAcked(t, l)
		for i := range 3 {
			d, n := send(t, l, nil)
			if want := (x.want + i) % 65536; n != want || !bytes.Equal(d[0], gram{number: uint16(want), count: 1}.bytes()) {
				t.Errorf("New(%d), message %d: %d, %v", x.first, i, n, d)
			}
		}
		wantLast(t, l, 0, false)
		wantAcked(t, l)
	}
}

func TestSendCuts(t *testing.T) {
	r := rand.New(rand.NewSource(2))
	l := New(65000)
	for size := range api.MaxMessage + 1 {
		b := someBytes(r, size)
		d, n := send(t, l, b)
		if want := (65000 + size) % 65536; n != want {
			t.Fatalf("message %d has the number %d", size, n)
		}
		count := max(1, (size+199)/200)
		if len(d) != count {
			t.Fatalf("%d bytes in %d parts", size, len(d))
		}
		for i := range d {
			body := b[200*i : min(200*i+200, size)]
			if want := (gram{number: uint16(n), index: byte(i), count: byte(count), body: body}).bytes(); !bytes.Equal(d[i], want) {
				t.Fatalf("%d bytes, part %d: %v, want %v", size, i, d[i], want)
			}
		}
	}
}

func TestSendCountsParts(t *testing.T) {
	for _, x := range []struct{ size, parts, last int }{
		{0, 1, 0}, {1, 1, 1}, {199, 1, 199}, {200, 1, 200}, {201, 2, 1}, {400, 2, 200}, {401, 3, 1}, {1800, 9, 200}, {1801, 10, 1}, {1999, 10, 199}, {2000, 10, 200},
	} {
		d, _ := send(t, New(0), make([]byte, x.size))
		if len(d) != x.parts || len(d[len(d)-1]) != 15+x.last {
			t.Errorf("%d bytes: %d parts", x.size, len(d))
		}
	}
}

func TestSendTooLong(t *testing.T) {
	l := New(7)
	send(t, l, nil)
	for _, size := range []int{api.MaxMessage + 1, api.MaxMessage + 200, 1 << 20} {
		if d, n, e := l.Send(make([]byte, size)); len(d) != 0 || n != 0 || e != api.ErrLong {
			t.Errorf("%d bytes: %d parts, %d, %d", size, len(d), n, e)
		}
	}
	// What was refused took no number, and is not among the messages that may be acknowledged.
	l.Receive(acking(0, 8, 1<<32-1))
	wantAcked(t, l, 7)
	if _, n := send(t, l, nil); n != 8 {
		t.Error(n)
	}
	l.Receive(acking(1, 8, 0))
	wantAcked(t, l, 7, 8)
}

func TestNumbersComeRound(t *testing.T) {
	l := New(65534)
	for i := range 2*65536 + 5 {
		d, n := send(t, l, nil)
		if want := (65534 + i) % 65536; n != want || parsed(t, d[0]).number != uint16(want) {
			t.Fatal(i, n)
		}
	}
}

func TestEachPartTellsTheAcks(t *testing.T) {
	l := New(0)
	for _, n := range []int{0x1233, 0x1234, 0x1236} {
		wantMessage(t, l, whole(n, "x"), []byte("x"))
	}
	d, _ := send(t, l, make([]byte, 500))
	for i, x := range d {
		if g := parsed(t, x); g.flag != 1 || g.last != 0x1236 || g.bits != 6 {
			t.Errorf("part %d: %+v", i, g)
		}
	}
	if !bytes.Equal(d[0][:7], []byte{1, 0x12, 0x36, 0, 0, 0, 6}) {
		t.Error(d[0][:7])
	}
	// They are the current ones: of later deliveries a later message tells.
	l.Receive(whole(0x1237, ""))
	wantTold(t, l, 1, 0x1237, 13)
}

func TestAckBits(t *testing.T) {
	for _, x := range []struct {
		steps []int
		want  uint32
	}{
		{nil, 0}, {[]int{1}, 1}, {[]int{2}, 2}, {[]int{31}, 1 << 30}, {[]int{32}, 1 << 31}, {[]int{33}, 0}, {[]int{34}, 0}, {[]int{64}, 0}, {[]int{65}, 0},
		{[]int{256}, 0}, {[]int{257}, 0}, {[]int{32767}, 0}, {[]int{1, 1}, 3}, {[]int{1, 2}, 6}, {[]int{2, 1}, 5}, {[]int{1, 31}, 1<<31 | 1<<30},
		{[]int{1, 32}, 1 << 31}, {[]int{1, 33}, 0}, {[]int{33, 1}, 1}, {[]int{32767, 3}, 4}, {[]int{16, 16}, 1<<31 | 1<<15}, {[]int{16, 17}, 1 << 16},
		{slices.Repeat([]int{1}, 31), 1<<31 - 1}, {slices.Repeat([]int{1}, 32), 1<<32 - 1}, {slices.Repeat([]int{1}, 50), 1<<32 - 1},
		{append(slices.Repeat([]int{1}, 50), 5), 1<<32 - 16}, {append(slices.Repeat([]int{1}, 50), 32), 1 << 31},
	} {
		for _, first := range []int{0, 9, 65535, 65520, 40000} {
			l := New(0)
			wantTold(t, l, 0, 0, 0)
			n := first
			wantMessage(t, l, whole(n, ""), nil)
			for _, j := range x.steps {
				n += j
				wantMessage(t, l, whole(n, ""), nil)
			}
			wantTold(t, l, 1, uint16(n), x.want)
			wantLast(t, l, n&65535, true)
		}
	}
}

// P7.2

// wrongGrams are not well-formed, each by one thing alone; their frames are right. All of
// them acknowledge the message 0, or would, if they were read.
func wrongGrams() map[string][]byte {
	one := func(change func(g *gram)) []byte {
		g := gram{flag: 1, number: 9, count: 1, body: []byte("x")}
		change(&g)
		return g.bytes()
	}
	l := map[string][]byte{
		"no bytes":           framed(nil),
		"ten bytes":          framed([]byte{1, 0, 0, 0, 0, 0, 0, 0, 9, 0}),
		"flag 2":             one(func(g *gram) { g.flag = 2 }),
		"flag 3":             one(func(g *gram) { g.flag = 3 }),
		"flag 255":           one(func(g *gram) { g.flag = 255 }),
		"no flag, last 1":    one(func(g *gram) { g.flag, g.last = 0, 1 }),
		"no flag, last 256":  one(func(g *gram) { g.flag, g.last = 0, 256 }),
		"no parts":           one(func(g *gram) { g.count = 0 }),
		"no parts, no bytes": one(func(g *gram) { g.count, g.body = 0, nil }),
		"eleven parts":       one(func(g *gram) { g.count, g.body = 11, filled(200, 0) }),
		"the eleventh":       one(func(g *gram) { g.index, g.count = 10, 11 }),
		"255 parts":          one(func(g *gram) { g.count, g.body = 255, filled(200, 0) }),
		"index 1 of 1":       one(func(g *gram) { g.index = 1 }),
		"index 2 of 2":       one(func(g *gram) { g.index, g.count = 2, 2 }),
		"index 10 of 10":     one(func(g *gram) { g.index, g.count = 10, 10 }),
		"index 255":          one(func(g *gram) { g.index, g.count = 255, 10 }),
		"only, 201 bytes":    one(func(g *gram) { g.body = filled(201, 0) }),
		"only, 400 bytes":    one(func(g *gram) { g.body = filled(400, 0) }),
		"last, 201 bytes":    one(func(g *gram) { g.index, g.count, g.body = 1, 2, filled(201, 0) }),
		"last, no byte":      one(func(g *gram) { g.index, g.count, g.body = 1, 2, nil }),
		"tenth, no byte":     one(func(g *gram) { g.index, g.count, g.body = 9, 10, nil }),
		"first, no byte":     one(func(g *gram) { g.count, g.body = 2, nil }),
		"first, 199 bytes":   one(func(g *gram) { g.count, g.body = 2, filled(199, 0) }),
		"first, 201 bytes":   one(func(g *gram) { g.count, g.body = 2, filled(201, 0) }),
		"ninth, 199 bytes":   one(func(g *gram) { g.index, g.count, g.body = 8, 10, filled(199, 0) }),
	}
	for k := range 32 {
		l[fmt.Sprintf("no flag, bit %d", k)] = one(func(g *gram) { g.flag, g.bits = 0, 1<<k })
	}
	for size := range 11 {
		l[fmt.Sprintf("%d bytes", size)] = framed([]byte{1, 0, 0, 0, 0, 0, 0, 0, 9, 0, 1}[:size])
	}
	return l
}

func TestWrongDatagrams(t *testing.T) {
	for name, d := range wrongGrams() {
		l := New(0)
		send(t, l, nil)
		wantMessage(t, l, whole(4, "a"), []byte("a"))
		wantWaits(t, l, piece(8, 0, 2))
		if m, is, e := l.Receive(d); len(m) != 0 || is || e != api.ErrLink {
			t.Errorf("%s: %v, %v, %d", name, m, is, e)
		}
		// Nothing changed: no acknowledgement, no message, and the part still waits.
		wantAcked(t, l)
		wantLast(t, l, 4, true)
		wantTold(t, l, 1, 4, 0)
		wantRefused(t, l, piece(8, 0, 2), api.ErrStale)
		wantMessage(t, l, end(8, 2), append(filled(200, 0), 2))
	}
}

func TestBytesThatAreNoFrame(t *testing.T) {
	good := acking(9, 0, 0)
	l := New(0)
	send(t, l, nil)
	for size := range good {
		wantRefused(t, l, good[:size], api.ErrLink)
		wantRefused(t, l, make([]byte, size), api.ErrLink)
	}
	for at := range good {
		for change := 1; change < 256; change++ {
			d := bytes.Clone(good)
			d[at] ^= byte(change)
			wantRefused(t, l, d, api.ErrLink)
		}
	}
	wantRefused(t, l, append(bytes.Clone(good), 0), api.ErrLink)
	wantRefused(t, l, filled(100000, 7), api.ErrLink)
	wantLast(t, l, 0, false)
	wantAcked(t, l)
	wantMessage(t, l, good, nil)
	wantAcked(t, l, 0)
}

// At the edges of what is well-formed.
func TestRightDatagrams(t *testing.T) {
	for _, x := range []gram{
		{count: 1}, {count: 1, body: []byte{7}}, {count: 1, body: filled(199, 7)}, {count: 1, body: filled(200, 7)},
		{flag: 1, count: 1}, {flag: 1, last: 65535, bits: 1<<32 - 1, number: 65535, count: 1}, {flag: 1, last: 256, count: 1}, {flag: 1, bits: 1, count: 1},
	} {
		wantMessage(t, New(0), x.bytes(), x.body)
	}
	for _, x := range []gram{
		{count: 2, body: filled(200, 7)}, {index: 1, count: 2, body: []byte{7}}, {index: 1, count: 2, body: filled(200, 7)},
		{count: 10, body: filled(200, 7)}, {index: 8, count: 10, body: filled(200, 7)}, {index: 9, count: 10, body: []byte{7}}, {index: 9, count: 10, body: filled(200, 7)},
	} {
		wantWaits(t, New(0), x.bytes())
	}
}

func TestAcknowledgements(t *testing.T) {
	for _, first := range []int{0, 100, 65500, 65535 - 39} {
		for _, x := range []struct {
			last int
			bits uint32
			want []int
		}{
			{39, 0, []int{39}}, {0, 0, []int{0}}, {20, 0, []int{20}},
			{39, 1, []int{38, 39}}, {39, 2, []int{37, 39}}, {39, 1 << 31, []int{7, 39}}, {39, 1<<32 - 1, span(7, 40)},
			{0, 1<<32 - 1, []int{0}}, {5, 1<<32 - 1, span(0, 6)}, {5, 0b10010, []int{0, 3, 5}}, {5, 1 << 5, []int{5}},
			// The messages 40 and later were not sent, nor was the one ahead of 0.
			{40, 0, nil}, {-1, 0, nil}, {40, 1, []int{39}}, {45, 0b110000, []int{39}}, {71, 1 << 31, []int{39}}, {72, 1<<32 - 1, nil}, {72, 1 << 31, nil}, {40 + 32768, 1<<32 - 1, nil},
		} {
			l := New(first)
			sendMany(t, l, 40)
			wantMessage(t, l, acking(0, first+x.last, x.bits), nil)
			var want []int
			for _, n := range x.want {
				want = append(want, (first+n)&65535)
			}
			wantAcked(t, l, want...)
		}
	}
}

func TestNoAcknowledgementWithoutFlag(t *testing.T) {
	l := New(0)
	sendMany(t, l, 3)
	wantMessage(t, l, whole(1, ""), nil)
	wantAcked(t, l)
}

func TestAcknowledgedAlsoByWhatIsRefused(t *testing.T) {
	l := New(0)
	sendMany(t, l, 9)
	wantMessage(t, l, whole(50, ""), nil)
	// Not newer than what was delivered.
	wantRefused(t, l, acking(50, 1, 0), api.ErrStale)
	wantAcked(t, l, 1)
	wantRefused(t, l, acking(49, 3, 1), api.ErrStale)
	wantAcked(t, l, 1, 2, 3)
	// Not newer than what waits.
	wantWaits(t, l, piece(60, 0, 3))
	wantRefused(t, l, acking(59, 4, 0), api.ErrStale)
	wantAcked(t, l, 1, 2, 3, 4)
	other := gram{flag: 1, last: 5, number: 60, index: 1, count: 4, body: filled(200, 1)}
	wantRefused(t, l, other.bytes(), api.ErrLink)
	wantAcked(t, l, 1, 2, 3, 4, 5)
	again := gram{flag: 1, last: 6, number: 60, index: 0, count: 3, body: filled(200, 1)}
	wantRefused(t, l, again.bytes(), api.ErrStale)
	wantAcked(t, l, 1, 2, 3, 4, 5, 6)
	// And by one whose part waits.
	next := gram{flag: 1, last: 7, number: 60, index: 1, count: 3, body: filled(200, 1)}
	wantWaits(t, l, next.bytes())
	wantAcked(t, l, 1, 2, 3, 4, 5, 6, 7)
}

func TestStaleAfterDelivery(t *testing.T) {
	for _, last := range []int{0, 1, 500, 32767, 32768, 65535} {
		for _, back := range []int{0, 1, 2, 31, 32, 33, 64, 32767, 32768} {
			l := New(0)
			wantMessage(t, l, whole(last, "a"), []byte("a"))
			wantRefused(t, l, whole(last-back, "a"), api.ErrStale)
			wantRefused(t, l, piece(last-back, 0, 2), api.ErrStale)
			wantLast(t, l, last, true)
			wantTold(t, l, 1, uint16(last), 0)
		}
		for _, ahead := range []int{1, 2, 32, 33, 32766, 32767} {
			l := New(0)
			wantMessage(t, l, whole(last, "a"), []byte("a"))
			wantMessage(t, l, whole(last+ahead, "b"), []byte("b"))
			wantLast(t, l, (last+ahead)&65535, true)
		}
	}
}

// The first message to be delivered may have any number.
func TestFirstNumber(t *testing.T) {
	for _, n := range []int{0, 1, 32767, 32768, 32769, 65535} {
		l := New(0)
		wantLast(t, l, 0, false)
		wantMessage(t, l, whole(n, "a"), []byte("a"))
		wantLast(t, l, n, true)
	}
}

func TestNewerMessageDropsWhatWaits(t *testing.T) {
	for _, first := range []int{0, 65535, 40000} {
		for _, ahead := range []int{1, 2, 32767} {
			l := New(0)
			wantWaits(t, l, piece(first, 0, 3))
			wantWaits(t, l, end(first, 3))
			wantWaits(t, l, piece(first+ahead, 0, 2))
			wantRefused(t, l, piece(first, 1, 3), api.ErrStale)
			wantLast(t, l, 0, false)
			wantMessage(t, l, end(first+ahead, 2), append(filled(200, 0), 2))
			wantTold(t, l, 1, uint16(first+ahead), 0)
		}
		for _, back := range []int{1, 2, 32767, 32768} {
			l := New(0)
			wantWaits(t, l, piece(first, 0, 2))
			wantRefused(t, l, piece(first-back, 1, 3), api.ErrStale)
			wantRefused(t, l, whole(first-back, "a"), api.ErrStale)
			wantMessage(t, l, end(first, 2), append(filled(200, 0), 2))
		}
	}
}

// A message of one part that is newer than what waits is delivered, and what waited is gone.
func TestNewerMessageOvertakes(t *testing.T) {
	l := New(0)
	wantWaits(t, l, piece(3, 0, 2))
	wantMessage(t, l, whole(4, "b"), []byte("b"))
	wantRefused(t, l, end(3, 2), api.ErrStale)
	wantLast(t, l, 4, true)
	// No part of it is left to mix with those of the next message.
	wantWaits(t, l, end(5, 2))
	wantMessage(t, l, piece(5, 0, 2), append(filled(200, 0), 2))
}

// What was dropped is not there any more: a part of fewer, or of more, than before.
func TestDroppedPartsDoNotCount(t *testing.T) {
	l := New(0)
	for i := range 9 {
		wantWaits(t, l, piece(1, i, 10))
	}
	wantWaits(t, l, piece(2, 3, 5))
	wantWaits(t, l, piece(3, 0, 10))
	want := filled(200, 0)
	for i := 1; i < 9; i++ {
		wantWaits(t, l, piece(3, i, 10))
		want = append(want, filled(200, byte(i))...)
	}
	wantMessage(t, l, end(3, 10), append(want, 10))
}

func TestAnotherCountOfParts(t *testing.T) {
	for count := 2; count <= 10; count++ {
		for other := 1; other <= 10; other++ {
			if other == count {
				continue
			}
			l := New(0)
			wantWaits(t, l, piece(7, 0, count))
			// Though its index waits already, the count is asked first; and one part alone would be whole.
			wantRefused(t, l, end(7, other), api.ErrLink)
			if other > 1 {
				wantRefused(t, l, piece(7, 0, other), api.ErrLink)
			}
			wantLast(t, l, 0, false)
			for i := 1; i < count-1; i++ {
				wantWaits(t, l, piece(7, i, count))
			}
			if _, is, e := l.Receive(end(7, count)); !is || e != api.OK {
				t.Errorf("%d parts, then one of %d: %v, %d", count, other, is, e)
			}
		}
	}
}

func TestSamePartAgain(t *testing.T) {
	l := New(0)
	wantWaits(t, l, piece(7, 1, 3))
	wantRefused(t, l, piece(7, 1, 3), api.ErrStale)
	// The first one stays, whatever the second one says.
	wantRefused(t, l, gram{number: 7, index: 1, count: 3, body: filled(200, 99)}.bytes(), api.ErrStale)
	wantWaits(t, l, end(7, 3))
	wantRefused(t, l, end(7, 3), api.ErrStale)
	wantMessage(t, l, piece(7, 0, 3), append(append(filled(200, 0), filled(200, 1)...), 3))
	for i := range 2 {
		wantRefused(t, l, piece(7, i, 3), api.ErrStale)
	}
}

func TestPartsInAnyOrder(t *testing.T) {
	r := rand.New(rand.NewSource(3))
	a, b := New(65000), New(0)
	for range 2000 {
		message := someBytes(r, r.Intn(api.MaxMessage+1))
		d, n := send(t, a, message)
		order := r.Perm(len(d))
		for _, i := range order[1:] {
			wantWaits(t, b, d[i])
			wantRefused(t, b, d[i], api.ErrStale)
		}
		wantMessage(t, b, d[order[0]], message)
		wantRefused(t, b, d[order[0]], api.ErrStale)
		wantLast(t, b, n, true)
	}
}

// P7.3

func TestAckedOfTheLast64(t *testing.T) {
	for _, first := range []int{0, 65500, 65535 - 63, 65536 - 64} {
		l := New(first)
		sendMany(t, l, 64)
		// Each of the 64 can be acknowledged, the oldest ones too.
		want := []int{}
		for i := range 64 {
			wantMessage(t, l, acking(i, first+i, 0), nil)
			want = append(want, (first+i)&65535)
			wantAcked(t, l, want...)
		}
		// With each further one the oldest is forgotten.
		for i := range 70 {
			send(t, l, nil)
			wantAcked(t, l, want[min(i+1, 64):]...)
		}
	}
}

func TestOlderThanTheLast64(t *testing.T) {
	l := New(10)
	sendMany(t, l, 65)
	wantMessage(t, l, acking(0, 10, 0), nil)
	wantAcked(t, l)
	wantMessage(t, l, acking(1, 12, 0b11), nil)
	wantAcked(t, l, 11, 12)
	wantMessage(t, l, acking(2, 9, 1<<32-1), nil)
	wantAcked(t, l, 11, 12)
	sendMany(t, l, 2)
	wantAcked(t, l)
	wantMessage(t, l, acking(3, 13, 1<<32-1), nil)
	wantAcked(t, l, 13)
}

// In the order in which they were sent, whatever the order of the acknowledgements, and
// where the numbers come round.
func TestAckedInOrder(t *testing.T) {
	l := New(65530)
	sendMany(t, l, 20)
	for i, n := range []int{12, 65535, 3, 65530, 0, 13, 65533} {
		l.Receive(acking(i, n, 0))
		l.Receive(acking(i, n, 0))
	}
	wantAcked(t, l, 65530, 65533, 65535, 0, 3, 12, 13)
}

// An acknowledgement stays with its message, and does not pass to a later one of that number.
func TestAckedWhenNumbersComeRound(t *testing.T) {
	l := New(0)
	sendMany(t, l, 64)
	wantMessage(t, l, acking(0, 40, 1<<32-1), nil)
	wantAcked(t, l, span(8, 41)...)
	sendMany(t, l, 65536)
	wantAcked(t, l)
	wantMessage(t, l, acking(1, 63, 0), nil)
	wantAcked(t, l, 63)
	wantMessage(t, l, acking(2, 64, 0), nil)
	wantAcked(t, l, 63)
}

func TestLast(t *testing.T) {
	l := New(3)
	wantLast(t, l, 0, false)
	wantRefused(t, l, nil, api.ErrLink)
	wantLast(t, l, 0, false)
	wantWaits(t, l, piece(77, 0, 2))
	wantLast(t, l, 0, false)
	wantMessage(t, l, end(77, 2), append(filled(200, 0), 2))
	wantLast(t, l, 77, true)
	wantWaits(t, l, piece(78, 0, 2))
	wantLast(t, l, 77, true)
	wantMessage(t, l, whole(80, ""), nil)
	wantLast(t, l, 80, true)
	sendMany(t, l, 5)
	wantLast(t, l, 80, true)
	wantMessage(t, l, whole(80+32767, ""), nil)
	wantLast(t, l, 80+32767, true)
	wantMessage(t, l, whole(65536, ""), nil)
	wantLast(t, l, 0, true)
}

// P7.4

// spoil writes over a list, with its spare capacity.
func spoil(b []byte) {
	b = b[:cap(b)]
	for i := range b {
		b[i] ^= 255
	}
}

func TestSendSharesNothing(t *testing.T) {
	for _, size := range []int{0, 1, 200, 201, 777, 2000} {
		l, twin := New(9), New(9)
		given := filled(size+100, 5)
		before := bytes.Clone(given)
		d, _ := send(t, l, given[:size])
		want, _ := send(t, twin, before[:size])
		if !bytes.Equal(given, before) {
			t.Errorf("%d bytes: the argument was changed", size)
		}
		spoil(given)
		for i := range d {
			if !bytes.Equal(d[i], want[i]) {
				t.Errorf("%d bytes: part %d changed with the argument, or with another part", size, i)
			}
			spoil(d[i])
		}
		again, _ := send(t, l, before[:size])
		want, _ = send(t, twin, before[:size])
		if !slices.EqualFunc(again, want, bytes.Equal) {
			t.Errorf("%d bytes: the next message changed with the datagrams", size)
		}
	}
}

func TestReceiveSharesNothing(t *testing.T) {
	for _, size := range []int{0, 1, 200, 201, 777, 2000} {
		b := New(0)
		message := someBytes(rand.New(rand.NewSource(int64(size))), size)
		d, _ := send(t, New(9), message)
		for i, x := range d {
			given := append(bytes.Clone(x), filled(50, 5)...)
			before := bytes.Clone(given)
			m, is, e := b.Receive(given[:len(x)])
			if e != api.OK || is != (i == len(d)-1) {
				t.Fatal(size, i, is, e)
			}
			if !bytes.Equal(given, before) {
				t.Errorf("%d bytes: part %d was changed", size, i)
			}
			// A part that waits, and a message that was delivered, are not the caller's bytes.
			spoil(given)
			if is && !bytes.Equal(m, message) {
				t.Errorf("%d bytes: the message changed with its datagrams", size)
			}
			spoil(m)
		}
		next := append(filled(200, 0), 2)
		wantWaits(t, b, piece(10, 0, 2))
		wantMessage(t, b, end(10, 2), next)
	}
}

func TestAckedIsNew(t *testing.T) {
	l := New(0)
	sendMany(t, l, 5)
	l.Receive(acking(0, 3, 0b11))
	got := l.Acked()
	for i := range got {
		got[i] = 77
	}
	_ = append(got, 78)
	wantAcked(t, l, 1, 2, 3)
}

func TestEndsAreTheirOwn(t *testing.T) {
	a, b := New(0), New(0)
	sendMany(t, a, 3)
	wantWaits(t, a, piece(1, 0, 2))
	wantMessage(t, b, end(1, 1), []byte{1})
	a.Receive(acking(0, 2, 0))
	wantAcked(t, a, 2)
	wantAcked(t, b)
	wantLast(t, a, 0, false)
	wantLast(t, b, 1, true)
}

// The model keeps all that ever happened to an end, and does what the chapter's words say
// with that.
type model struct {
	sent      []int
	acked     map[int]bool // by the place in sent
	delivered []int
	waiting   map[int][]byte
	number    int
	count     int
}

func (m *model) told() (byte, uint16, uint32) {
	if len(m.delivered) == 0 {
		return 0, 0, 0
	}
	var bits uint32
	back := 0
	for i := len(m.delivered) - 1; i > 0; i-- {
		back += (m.delivered[i] - m.delivered[i-1] + 65536) % 65536
		if back <= 32 {
			bits |= 1 << (back - 1)
		}
	}
	return 1, uint16(m.delivered[len(m.delivered)-1]), bits
}

func (m *model) ackedNumbers() []int {
	var l []int
	for i := max(0, len(m.sent)-64); i < len(m.sent); i++ {
		if m.acked[i] {
			l = append(l, m.sent[i])
		}
	}
	return l
}

func (m *model) receive(g gram) ([]byte, bool, api.Errno) {
	if g.flag == 1 {
		for i := max(0, len(m.sent)-64); i < len(m.sent); i++ {
			back := (int(g.last) - m.sent[i] + 65536) % 65536
			if back == 0 || back <= 32 && g.bits>>(back-1)&1 == 1 {
				m.acked[i] = true
			}
		}
	}
	n := int(g.number)
	if count := len(m.delivered); count > 0 && !Newer(n, m.delivered[count-1]) {
		return nil, false, api.ErrStale
	}
	if len(m.waiting) > 0 && m.number != n {
		if !Newer(n, m.number) {
			return nil, false, api.ErrStale
		}
		m.waiting = nil
	}
	if len(m.waiting) > 0 && m.count != int(g.count) {
		return nil, false, api.ErrLink
	}
	if m.waiting == nil {
		m.waiting = map[int][]byte{}
	}
	if _, is := m.waiting[int(g.index)]; is {
		return nil, false, api.ErrStale
	}
	m.waiting[int(g.index)] = g.body
	m.number, m.count = n, int(g.count)
	if len(m.waiting) < m.count {
		return nil, false, api.OK
	}
	var whole []byte
	for i := range m.count {
		whole = append(whole, m.waiting[i]...)
	}
	m.waiting = nil
	m.delivered = append(m.delivered, n)
	return whole, true, api.OK
}

// anyGram is a well-formed one, near to what the end awaits.
func anyGram(r *rand.Rand, m *model) gram {
	at := 0
	if len(m.delivered) > 0 {
		at = m.delivered[len(m.delivered)-1]
	}
	if len(m.waiting) > 0 && r.Intn(2) == 0 {
		at = m.number - 1
	}
	ahead := []int{r.Intn(4), r.Intn(4), r.Intn(4), r.Intn(40) - 3, r.Intn(65536)}[r.Intn(5)]
	if r.Intn(20) > 0 && ahead > 100 {
		ahead = 1
	}
	g := gram{number: uint16(at + ahead), count: byte(1 + r.Intn(3))}
	if r.Intn(20) == 0 {
		g.count = byte(1 + r.Intn(10))
	}
	g.index = byte(r.Intn(int(g.count)))
	g.body = someBytes(r, 200)
	if g.index == g.count-1 {
		g.body = g.body[:1+r.Intn(200)]
		if g.count == 1 {
			g.body = g.body[1:]
		}
	}
	if r.Intn(3) > 0 {
		g.flag, g.bits = 1, r.Uint32()&r.Uint32()&r.Uint32()
		g.last = uint16(r.Intn(65536))
		if count := len(m.sent); count > 0 && r.Intn(10) > 0 {
			g.last = uint16(m.sent[count-1] - r.Intn(90) + 10)
		}
	}
	return g
}

func TestByTheModel(t *testing.T) {
	r := rand.New(rand.NewSource(4))
	kinds := map[string]int{}
	for range 200 {
		first := r.Intn(1 << 20)
		l, m := New(first), &model{acked: map[int]bool{}}
		for range 400 {
			switch r.Intn(8) {
			case 0, 1:
				d, n := send(t, l, nil)
				flag, last, bits := m.told()
				if g := parsed(t, d[0]); n != (first+len(m.sent))%65536 || g.flag != flag || g.last != last || g.bits != bits {
					t.Fatalf("%d, %+v, want %d, %d, %b", n, g, flag, last, bits)
				}
				m.sent = append(m.sent, n)
			case 2:
				d := anyGram(r, m).bytes()
				d[r.Intn(len(d))] ^= byte(1 + r.Intn(255))
				wantRefused(t, l, d, api.ErrLink)
			default:
				g := anyGram(r, m)
				want, wantIs, wantE := m.receive(g)
				got, is, e := l.Receive(g.bytes())
				if !bytes.Equal(got, want) || is != wantIs || e != wantE {
					t.Fatalf("%+v: %v, %v, %d, want %v, %v, %d", g, got, is, e, want, wantIs, wantE)
				}
				kinds[fmt.Sprint(is, int(e))]++
			}
			wantAcked(t, l, m.ackedNumbers()...)
			last := 0
			if count := len(m.delivered); count > 0 {
				last = m.delivered[count-1]
			}
			wantLast(t, l, last, len(m.delivered) > 0)
		}
	}
	for _, kind := range []string{"true 0", "false 0", "false 70", "false 71"} {
		if kinds[kind] < 500 {
			t.Errorf("only %d times %s", kinds[kind], kind)
		}
	}
}

// P7.5, P7.6

// side is an end on a bad net, and what is known of it from outside.
type side struct {
	link     *Link
	messages map[int][]byte // what it sent, by numbers
	order    []int
	got      []int // what was delivered to it
	flying   [][]byte
	net      [][]byte // all that ever went its way
}

func newSide(first int) *side { return &side{link: New(first), messages: map[int][]byte{}} }

// speak sends a message towards another side, of which the net loses some datagrams.
func (s *side) speak(t *testing.T, r *rand.Rand, to *side) {
	size := r.Intn(30)
	if r.Intn(3) == 0 {
		size = r.Intn(api.MaxMessage + 1)
	}
	b := someBytes(r, size)
	d, n := send(t, s.link, b)
	s.messages[n], s.order = b, append(s.order, n)
	to.net = append(to.net, d...)
	for _, x := range d {
		if r.Intn(12) > 0 {
			to.flying = append(to.flying, x)
		}
	}
}

// hear lets a datagram arrive: mostly one of the oldest that fly, sometimes any of those
// that ever did, sometimes one that was damaged.
func (s *side) hear(t *testing.T, r *rand.Rand, from *side) {
	var d []byte
	switch k := r.Intn(12); {
	case k == 0 && len(s.net) > 0:
		d = s.net[r.Intn(len(s.net))]
	case k == 1 && len(s.net) > 0:
		d = bytes.Clone(s.net[len(s.net)-1])
		d[r.Intn(len(d))] ^= byte(1 + r.Intn(255))
	case len(s.flying) > 0:
		i := r.Intn(min(3, len(s.flying)))
		d = s.flying[i]
		s.flying = slices.Delete(s.flying, i, i+1)
	default:
		return
	}
	m, is, _ := s.link.Receive(d)
	if !is {
		return
	}
	n, known := s.link.Last()
	if sent, was := from.messages[n]; !known || !was || !bytes.Equal(m, sent) {
		t.Fatalf("the message %d is not as it was sent", n)
	}
	if len(s.got) > 0 && !Newer(n, s.got[len(s.got)-1]) {
		t.Fatalf("the message %d came after %d", n, s.got[len(s.got)-1])
	}
	if slices.Contains(s.got, n) {
		t.Fatalf("the message %d came twice", n)
	}
	s.got = append(s.got, n)
}

// wantAcksTrue: what is acknowledged was delivered to the other side.
func (s *side) wantAcksTrue(t *testing.T, to *side) int {
	l := s.link.Acked()
	for _, n := range l {
		if !slices.Contains(to.got, n) {
			t.Fatalf("the message %d is acknowledged, but was not delivered", n)
		}
	}
	return len(l)
}

func TestOverABadNet(t *testing.T) {
	r := rand.New(rand.NewSource(5))
	delivered, acked, sent := 0, 0, 0
	for range 60 {
		a, b := newSide(r.Intn(1<<17)), newSide(65400+r.Intn(136))
		for range 1000 {
			x, y := a, b
			if r.Intn(2) == 0 {
				x, y = b, a
			}
			if r.Intn(4) == 0 {
				x.speak(t, r, y)
			} else {
				x.hear(t, r, y)
			}
			acked += x.wantAcksTrue(t, y)
		}
		delivered += len(a.got) + len(b.got)
		sent += len(a.order) + len(b.order)
	}
	if delivered < sent/5 || delivered == sent || acked < 1000 {
		t.Error(delivered, sent, acked)
	}
}

// As many messages as the promise speaks of, and the first one's datagrams again at the end.
func TestNearlyHalfOfAllNumbers(t *testing.T) {
	a, b := New(60000), New(0)
	var first []byte
	for i := range 32767 {
		d, n := send(t, a, nil)
		if i == 0 {
			first = d[0]
		}
		if i%1000 == 0 || i == 32766 {
			wantMessage(t, b, d[0], nil)
			wantLast(t, b, n, true)
		}
		if i%97 == 0 && i > 0 {
			wantRefused(t, b, first, api.ErrStale)
		}
	}
	wantRefused(t, b, first, api.ErrStale)
}

// P7.7

// A message all of whose datagrams arrive, none after a newer one's, is delivered: also if
// the datagrams arrive twice, or in another order, with older ones among them.
func TestWholeMessagesArrive(t *testing.T) {
	r := rand.New(rand.NewSource(6))
	for range 100 {
		a, b := New(r.Intn(65536)), New(0)
		var old [][]byte
		for range 40 {
			message := someBytes(r, r.Intn(api.MaxMessage+1))
			d, n := send(t, a, message)
			lossy := r.Intn(3) == 0
			arrived := 0
			for _, i := range r.Perm(len(d)) {
				if lossy && arrived == len(d)-1 {
					break
				}
				// Late and doubled ones do not stand in its way, once a part of it came.
				if arrived > 0 && len(old) > 0 {
					b.Receive(old[r.Intn(len(old))])
				}
				m, is, e := b.Receive(d[i])
				arrived++
				if e != api.OK || is != (arrived == len(d)) || is && !bytes.Equal(m, message) {
					t.Fatalf("message %d: %v, %d", n, is, e)
				}
				if r.Intn(2) == 0 {
					wantRefused(t, b, d[i], api.ErrStale)
				}
			}
			if got, is := b.Last(); !lossy && (got != n || !is) {
				t.Fatalf("message %d was not delivered", n)
			}
			old = append(old, d...)
		}
	}
}
