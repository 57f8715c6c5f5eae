package image_test

import (
	"bytes"
	"encoding/binary"
	"fmt"
	"slices"
	"strings"
	"testing"

	"tiltyard/api"
	"tiltyard/image"
)

// tell is anything as text: by it a nil list and an empty one are the same.
func tell(x any) string { return fmt.Sprintf("%+v", x) }

// short keeps what a failing test tells to a few lines.
func short(s string) string {
	if len(s) > 600 {
		return s[:600] + " ..."
	}
	return s
}

// wantBytes asks for the bytes of an image, and for the way back.
func wantBytes(t *testing.T, x api.Image, want []byte) {
	t.Helper()
	if e := image.Right(x); e != api.OK {
		t.Errorf("Right of %s: %v", short(tell(x)), e)
	}
	if b, e := image.Encode(x); e != api.OK || !bytes.Equal(b, want) {
		t.Errorf("Encode of %s: %v, %s, want %s", short(tell(x)), e, short(tell(b)), short(tell(want)))
	}
	if y, e := image.Decode(want); e != api.OK || tell(y) != tell(x) {
		t.Errorf("Decode of %s: %v, %s, want %s", short(tell(want)), e, short(tell(y)), short(tell(x)))
	}
}

// wantNone asks for an error of Right and Encode, and for no bytes.
func wantNone(t *testing.T, told string, x api.Image, want api.Errno) {
	t.Helper()
	if e := image.Right(x); e != want {
		t.Errorf("%s: Right tells %v, want %v", told, e, want)
	}
	if b, e := image.Encode(x); e != want || len(b) != 0 {
		t.Errorf("%s: Encode tells %v and %d bytes, want %v", told, e, len(b), want)
	}
}

// wantClosed asks for an error of Decode, and for no image.
func wantClosed(t *testing.T, told string, b []byte, want api.Errno) {
	t.Helper()
	if x, e := image.Decode(b); e != want || len(x.Globs) != 0 || len(x.Fns) != 0 {
		t.Errorf("%s: Decode tells %v and %s, want %v", told, e, short(tell(x)), want)
	}
}

// wantInvalid asks that an image is refused, and that its bytes are.
func wantInvalid(t *testing.T, told string, x api.Image) {
	t.Helper()
	wantNone(t, told, x, api.ErrImage)
	wantClosed(t, told, framed(inside(x)), api.ErrImage)
}

// wantValid asks for what the chapter says of an image, there and back.
func wantValid(t *testing.T, told string, x api.Image) {
	t.Helper()
	t.Log(told)
	wantBytes(t, x, framed(inside(x)))
}

// withGlob is an image with one Glob.
func withGlob(g api.Glob) api.Image { return api.Image{Globs: []api.Glob{g}} }

// withFn is an image with one function; a change may make it another one.
func withFn(change func(f *api.Fn)) api.Image {
	f := api.Fn{
		Name: "f", Params: []int{api.TyInt}, Result: api.TyInt, Locals: []int{api.TyInt, api.TyEnt},
		Code: []api.Instr{{Op: api.DoLoad}, {Op: api.DoRet}},
	}
	change(&f)
	return api.Image{Fns: []api.Fn{f}}
}

func withInstr(i api.Instr) api.Image {
	return withFn(func(f *api.Fn) { f.Code = []api.Instr{i} })
}

// P15.1

func TestExamples(t *testing.T) {
	wantBytes(t, api.Image{}, framed([]byte{84, 73, 76, 84, 0, 0}))
	x := api.Image{
		Globs: []api.Glob{{Type: api.TyInt, Value: -3}},
		Fns:   []api.Fn{{Name: "f", Code: []api.Instr{{Op: api.DoRet}}}},
	}
	wantBytes(t, x, framed([]byte{84, 73, 76, 84, 1, 1, 0, 5, 1, 1, 102, 0, 0, 0, 1, 32, 0, 0}))
}

func TestBytesOfAnImage(t *testing.T) {
	x := api.Image{
		Globs: []api.Glob{{Type: api.TyFix, Value: 300}, {Type: api.TyBool, Value: 1}, {Type: api.TyEnt, Size: 256}, {Type: api.TyInt, Value: api.MinInt}},
		Fns: []api.Fn{
			{
				Name: "tick", Params: []int{1, 4}, Result: 3, Locals: []int{1, 4, 2, 2, 3},
				Code: []api.Instr{{Op: api.DoPush, A: -65, B: 4}, {Op: api.DoPop, A: 64}},
			},
			{Name: "_", Locals: []int{4}},
		},
	}
	wantBytes(t, x, framed([]byte{
		84, 73, 76, 84,
		4, 2, 0, 216, 4, 3, 0, 2, 4, 128, 2, 0, 1, 0, 255, 255, 255, 255, 255, 255, 255, 255, 255, 1,
		2,
		4, 116, 105, 99, 107, 2, 1, 4, 3, 3, 2, 2, 3, 2, 1, 129, 1, 4, 33, 128, 1, 0,
		1, 95, 0, 0, 1, 4, 0,
	}))
}

func TestBytesOfMods(t *testing.T) {
	for _, s := range []string{
		"", "fn f(){}", "var a:int=-3;var b:[256]ent;var c:fix=-1.5;var d:bool=true;var e:ent=null;",
		"fn input(c:int,k:int){let i:int=0;while i<count(){if owner(nth(i))==c{push(nth(i),tofix(k),0.0);}i=i+1;}}",
		"fn a(x:fix,y:ent,z:bool):fix{return x*2.0;}fn b():ent{return null;}",
	} {
		x := fromSource(t, s)
		wantBytes(t, x, framed(inside(x)))
	}
}

func TestBytesOfAllKinds(t *testing.T) {
	for _, x := range someImages() {
		wantBytes(t, x, framed(inside(x)))
	}
}

func TestTypesOfGlobs(t *testing.T) {
	for _, kind := range []int{1, 2, 3, 4} {
		wantValid(t, tell(kind), withGlob(api.Glob{Type: kind}))
	}
	for _, kind := range []int{0, 5, 6, 255, 256 + 1, 1 << 32, api.MaxInt} {
		wantInvalid(t, tell(kind), withGlob(api.Glob{Type: kind}))
	}
	for _, kind := range []int{-1, -4, api.MinInt} {
		wantNone(t, tell(kind), withGlob(api.Glob{Type: kind}), api.ErrImage)
	}
}

func TestSizesOfGlobs(t *testing.T) {
	for _, kind := range []int{1, 2, 3, 4} {
		for _, size := range []int{0, 1, 2, 255, api.MaxArray} {
			wantValid(t, tell(size), withGlob(api.Glob{Type: kind, Size: size}))
		}
		for _, size := range []int{api.MaxArray + 1, 512, 1<<32 + 1, api.MaxInt} {
			wantInvalid(t, tell(size), withGlob(api.Glob{Type: kind, Size: size}))
		}
		for _, size := range []int{-1, -256, api.MinInt} {
			wantNone(t, tell(size), withGlob(api.Glob{Type: kind, Size: size}), api.ErrImage)
		}
	}
}

func TestValuesOfGlobs(t *testing.T) {
	numbers := []int{1, -1, 2, -2, 127, 128, 1 << 32, 1<<32 + 1, api.MaxInt, api.MinInt}
	for _, n := range numbers {
		wantValid(t, tell(n), withGlob(api.Glob{Type: api.TyInt, Value: n}))
		wantValid(t, tell(n), withGlob(api.Glob{Type: api.TyFix, Value: n}))
		wantInvalid(t, tell(n), withGlob(api.Glob{Type: api.TyEnt, Value: n}))
		for _, kind := range []int{1, 2, 3, 4} {
			wantInvalid(t, tell(n), withGlob(api.Glob{Type: kind, Size: 1, Value: n}))
			wantInvalid(t, tell(n), withGlob(api.Glob{Type: kind, Size: api.MaxArray, Value: n}))
		}
		if n != 1 {
			wantInvalid(t, tell(n), withGlob(api.Glob{Type: api.TyBool, Value: n}))
		}
	}
	wantValid(t, "true", withGlob(api.Glob{Type: api.TyBool, Value: 1}))
}

func TestCounts(t *testing.T) {
	globs, fns := []api.Glob{}, []api.Fn{}
	for range api.MaxVars + 1 {
		globs = append(globs, api.Glob{Type: api.TyEnt})
	}
	// Functions of the same name are for package verify.
	for range api.MaxFuncs + 1 {
		fns = append(fns, api.Fn{Name: "f"})
	}
	for _, n := range []int{0, 1, 2, api.MaxVars - 1, api.MaxVars} {
		wantValid(t, tell(n), api.Image{Globs: globs[:n]})
		wantValid(t, tell(n), api.Image{Fns: fns[:n]})
	}
	wantValid(t, "the most of both", api.Image{Globs: globs[:api.MaxVars], Fns: fns[:api.MaxFuncs]})
	wantInvalid(t, "too many Globs", api.Image{Globs: globs})
	wantInvalid(t, "too many Fns", api.Image{Fns: fns})
	wantInvalid(t, "many times too many", api.Image{Globs: slices.Repeat(globs, 1000), Fns: slices.Repeat(fns, 1000)})
}

// TestEachElementCounts puts what is wrong at each place of a list.
func TestEachElementCounts(t *testing.T) {
	for at := range 4 {
		globs := slices.Repeat([]api.Glob{{Type: api.TyInt}}, 4)
		fns := slices.Repeat([]api.Fn{{Name: "f"}}, 4)
		code := slices.Repeat([]api.Instr{{Op: api.DoRet}}, 4)
		kinds := []int{1, 2, 3, 4}
		globs[at].Type, fns[at].Name, code[at].Op, kinds[at] = 0, "", 0, 0
		wantInvalid(t, tell(at), api.Image{Globs: globs})
		wantInvalid(t, tell(at), api.Image{Fns: fns})
		wantInvalid(t, tell(at), withFn(func(f *api.Fn) { f.Code = code }))
		wantInvalid(t, tell(at), withFn(func(f *api.Fn) { f.Params, f.Locals = kinds, kinds }))
		wantInvalid(t, tell(at), withFn(func(f *api.Fn) { f.Params, f.Locals = nil, kinds }))
	}
}

func TestNames(t *testing.T) {
	for _, s := range []string{"f", "_", "a1", "_0", "tick", "spawn", "tofix", "iff", strings.Repeat("x", api.MaxName)} {
		wantValid(t, s, withFn(func(f *api.Fn) { f.Name = s }))
	}
	for _, s := range []string{
		"", " ", "F", "1", "1a", "a b", "a ", " a", "a\n", "a-b", "a.b", "é", "aé", "\x00", "a\x00", "a#", "f()",
		"if", "while", "int", "null", "true", "fn", strings.Repeat("x", api.MaxName+1), strings.Repeat("x", 1000), strings.Repeat("x", api.MaxText),
		strings.Repeat("x", api.MaxText+1), strings.Repeat("x", api.MaxImage/2),
	} {
		wantInvalid(t, short(s), withFn(func(f *api.Fn) { f.Name = s }))
	}
	wantNone(t, "a huge name", withFn(func(f *api.Fn) { f.Name = strings.Repeat("x", 2*api.MaxImage) }), api.ErrImage)
}

func TestParamsAndLocals(t *testing.T) {
	for params := range api.MaxParams + 2 {
		for locals := params; locals <= api.MaxLocals+2; locals++ {
			x := withFn(func(f *api.Fn) {
				f.Locals = slices.Repeat([]int{4, 3, 2, 1}, 10)[:locals]
				f.Params = slices.Clone(f.Locals[:params])
			})
			told := fmt.Sprint(params, " of ", locals)
			if params <= api.MaxParams && locals <= api.MaxLocals {
				wantValid(t, told, x)
			} else {
				wantInvalid(t, told, x)
			}
		}
	}
	for _, l := range [][2][]int{
		{{1}, {}}, {{1}, {2}}, {{1, 2}, {1}}, {{1, 2}, {2, 1}}, {{1, 2}, {1, 3, 2}}, {{1, 2}, {3, 1, 2}}, {{0}, {1}}, {{1}, {0}},
		{slices.Repeat([]int{1}, 8), slices.Repeat([]int{1}, 7)}, {slices.Repeat([]int{1}, 50), {}},
	} {
		wantNone(t, tell(l), withFn(func(f *api.Fn) { f.Params, f.Locals = l[0], l[1] }), api.ErrImage)
	}
}

func TestTypesOfFunctions(t *testing.T) {
	for _, kind := range []int{0, 1, 2, 3, 4} {
		wantValid(t, tell(kind), withFn(func(f *api.Fn) { f.Result = kind }))
	}
	for _, kind := range []int{5, 6, 256, 1 << 32, api.MaxInt} {
		wantInvalid(t, tell(kind), withFn(func(f *api.Fn) { f.Result = kind }))
	}
	for _, kind := range []int{0, 5, 256 + 1, api.MaxInt} {
		wantInvalid(t, tell(kind), withFn(func(f *api.Fn) { f.Locals[1] = kind }))
		wantInvalid(t, tell(kind), withFn(func(f *api.Fn) { f.Params[0], f.Locals[0] = kind, kind }))
	}
	for _, kind := range []int{-1, -4, api.MinInt} {
		wantNone(t, tell(kind), withFn(func(f *api.Fn) { f.Result = kind }), api.ErrImage)
		wantNone(t, tell(kind), withFn(func(f *api.Fn) { f.Locals[1] = kind }), api.ErrImage)
		wantNone(t, tell(kind), withFn(func(f *api.Fn) { f.Params[0], f.Locals[0] = kind, kind }), api.ErrImage)
	}
}

func TestInstructions(t *testing.T) {
	for op := api.DoPush; op <= api.DoPop; op++ {
		for b := range 5 {
			wantValid(t, tell(op), withInstr(api.Instr{Op: op, A: 7 - op, B: b}))
		}
	}
	// What an instruction's A names is for package verify.
	for _, a := range []int{0, 1, -1, 63, -64, 64, -65, 1 << 32, api.MaxInt, api.MinInt} {
		wantValid(t, tell(a), withInstr(api.Instr{Op: api.DoJump, A: a}))
	}
	for _, n := range []int{5, 6, 128, 256, 1 << 32, api.MaxInt} {
		wantInvalid(t, tell(n), withInstr(api.Instr{Op: api.DoPush, B: n}))
	}
	for _, n := range []int{0, 34, 35, 256 + 1, 1<<32 + 1, api.MaxInt} {
		wantInvalid(t, tell(n), withInstr(api.Instr{Op: n}))
	}
	for _, n := range []int{-1, -33, api.MinInt} {
		wantNone(t, tell(n), withInstr(api.Instr{Op: n}), api.ErrImage)
		wantNone(t, tell(n), withInstr(api.Instr{Op: api.DoPush, B: n}), api.ErrImage)
	}
}

// long is an image with as many instructions, in functions of up to MaxCode.
func long(instructions int) api.Image {
	x := api.Image{}
	for instructions > 0 {
		n := min(instructions, api.MaxCode)
		x.Fns = append(x.Fns, api.Fn{Name: "f", Code: slices.Repeat([]api.Instr{{Op: api.DoRet}}, n)})
		instructions -= n
	}
	return x
}

func TestLengthOfCode(t *testing.T) {
	wantValid(t, "none", withFn(func(f *api.Fn) { f.Code = nil }))
	for _, n := range []int{127, 128, api.MaxCode - 1, api.MaxCode} {
		wantValid(t, tell(n), long(n))
	}
	for _, n := range []int{api.MaxCode + 1, 2 * api.MaxCode} {
		wantInvalid(t, tell(n), withFn(func(f *api.Fn) { f.Code = slices.Repeat([]api.Instr{{Op: api.DoRet}}, n) }))
	}
}

// ofSize is a valid image whose bytes, with the sum, are that many.
func ofSize(t *testing.T, size int) api.Image {
	t.Helper()
	x := long(size/3 - 100)
	for i := range size - 4 - len(inside(x)) {
		x.Fns[0].Code[i].A = 64 // the first number that takes a byte more
	}
	if got := len(inside(x)) + 4; got != size {
		t.Fatalf("%d bytes, want %d", got, size)
	}
	return x
}

func TestTooLong(t *testing.T) {
	for over := -3; over <= 0; over++ {
		x := ofSize(t, api.MaxImage+over)
		b, e := image.Encode(x)
		if right := image.Right(x); e != api.OK || right != api.OK || len(b) != api.MaxImage+over {
			t.Errorf("%d over: %d bytes, %v, %v", over, len(b), e, right)
		}
		if y, e := image.Decode(b); e != api.OK || !bytes.Equal(inside(y), inside(x)) {
			t.Errorf("%d over: there and back is another image: %v", over, e)
		}
	}
	// The sum counts: without its four bytes these would not be too long.
	for over := 1; over <= 6; over++ {
		x := ofSize(t, api.MaxImage+over)
		wantNone(t, tell(over), x, api.ErrLong)
		wantClosed(t, tell(over), framed(inside(x)), api.ErrLong)
	}
	wantNone(t, "as long as can be", long(api.MaxCode*api.MaxFuncs), api.ErrLong)
}

func TestInvalidComesAheadOfTooLong(t *testing.T) {
	for _, spoil := range []func(x *api.Image){
		func(x *api.Image) { x.Globs = []api.Glob{{}} },
		func(x *api.Image) { x.Fns[len(x.Fns)-1].Code[5].Op = 34 },
		func(x *api.Image) { x.Fns[0].Name = "" },
	} {
		x := long(api.MaxImage / 2)
		wantNone(t, "valid", x, api.ErrLong)
		spoil(&x)
		wantNone(t, "spoilt", x, api.ErrImage)
	}
}

// P15.2

func TestBytesThatAreNoImage(t *testing.T) {
	for _, b := range [][]byte{
		nil, {}, {0}, {84, 73, 76, 84}, {84, 73, 76, 84, 0, 0}, {84, 73, 76, 84, 0, 0, 0, 0, 0, 0},
		framed(nil), framed([]byte{84}), framed([]byte("TIL")), framed([]byte("TILT")), framed([]byte("TILT\x00")),
		framed([]byte("TILT\x00\x00\x00")), framed([]byte("tilt\x00\x00")), framed([]byte("TILU\x00\x00")), framed([]byte("SILT\x00\x00")),
		framed([]byte("\x00TILT\x00\x00")), framed([]byte("\x00\x00")), framed([]byte("TILTTILT\x00\x00")),
		framed(framed([]byte("TILT\x00\x00"))), make([]byte, api.MaxImage),
		slices.Repeat([]byte{255}, 1000), framed(slices.Repeat([]byte{255}, 1000)), framed(make([]byte, 1000)),
	} {
		wantClosed(t, short(tell(b)), b, api.ErrImage)
	}
}

func TestTooManyBytes(t *testing.T) {
	for _, b := range [][]byte{
		make([]byte, api.MaxImage+1), make([]byte, 3*api.MaxImage),
		framed(append([]byte("TILT\x00\x00"), make([]byte, api.MaxImage-9)...)),
	} {
		wantClosed(t, tell(len(b)), b, api.ErrLong)
		wantClosed(t, tell(api.MaxImage), b[:api.MaxImage], api.ErrImage)
	}
}

// theWhole is an image with something of everything.
func theWhole(t *testing.T) api.Image {
	return fromSource(t, "var a:int=-300;var b:[200]ent;fn f(x:int,y:bool):fix{let z:ent=b[x];kill(z);return 1.5;}fn tick(){a=a+1;}")
}

func TestWrongSum(t *testing.T) {
	b := framed(inside(theWhole(t)))
	for at := range b {
		for bit := range 8 {
			spoilt := slices.Clone(b)
			spoilt[at] ^= 1 << bit
			wantClosed(t, fmt.Sprint(at, " ", bit), spoilt, api.ErrImage)
		}
	}
}

func TestBytesThatEndEarly(t *testing.T) {
	b := inside(theWhole(t))
	for end := range b {
		wantClosed(t, tell(end), framed(b[:end]), api.ErrImage)
		wantClosed(t, tell(end), b[:end], api.ErrImage)
	}
}

func TestBytesBehindTheImage(t *testing.T) {
	for _, x := range []api.Image{{}, theWhole(t)} {
		for _, more := range []string{"\x00", "\x01", "\xff", "\x00\x00\x00\x00", "TILT\x00\x00"} {
			wantClosed(t, more, framed(append(inside(x), more...)), api.ErrImage)
			wantClosed(t, more, append(framed(inside(x)), more...), api.ErrImage)
		}
	}
}

// TestOneFormOfEachNumber gives each number of an image in turn a byte more.
func TestOneFormOfEachNumber(t *testing.T) {
	b := inside(api.Image{
		Globs: []api.Glob{{Type: api.TyInt, Value: 3}},
		Fns: []api.Fn{{
			Name: "f", Params: []int{1}, Result: 2, Locals: []int{1, 4}, Code: []api.Instr{{Op: api.DoPush, A: -3, B: 1}},
		}},
	})
	for at := 4; at < len(b); at++ {
		if b[at] == 'f' {
			continue
		}
		longer := slices.Concat(b[:at], []byte{b[at] | 128, 0}, b[at+1:])
		wantClosed(t, tell(longer), framed(longer), api.ErrImage)
	}
}

// TestLengthsBeyondTheBytes has lists and names of any length, with nothing, or
// all the bytes that there may be, behind them.
func TestLengthsBeyondTheBytes(t *testing.T) {
	x := api.Image{Fns: []api.Fn{{Name: "f"}}}
	b := inside(x) // the lengths are that of Globs, Fns, the name, Params, Locals, Code
	for _, at := range []int{4, 5, 6, 8, 10, 11} {
		for _, length := range []int{1, 8, 9, 24, 25, 32, 33, 64, 65, 256, 32768, 32769, 65536, 65537, 1 << 32, api.MaxInt} {
			start := binary.AppendUvarint(slices.Clone(b[:at]), uint64(length))
			if at == 6 && length == 1 {
				continue // the name ends behind its one letter, as it should
			}
			wantClosed(t, fmt.Sprint(at, " ", length), framed(start), api.ErrImage)
			wantClosed(t, fmt.Sprint(at, " ", length), framed(append(start, make([]byte, 1000)...)), api.ErrImage)
			ones := slices.Repeat([]byte{1}, api.MaxImage-len(start)-4)
			if length > 300 {
				wantClosed(t, fmt.Sprint(at, " ", length), framed(append(start, ones...)), api.ErrImage)
			}
		}
	}
}

// P15.4

// TestAnyBytes changes the bytes of images: what Decode answers then, if
// anything, has just these bytes.
func TestAnyBytes(t *testing.T) {
	opened := 0
	for seed := range int64(20000) {
		r := newMaker(seed)
		x := api.Image{}
		if r.Intn(10) > 0 {
			x.Globs = append(x.Globs, r.glob())
			x.Fns = append(x.Fns, r.fn(), r.fn())
		}
		b := inside(x)
		for range 1 + r.Intn(3) {
			switch at := r.Intn(len(b)); r.Intn(4) {
			case 0:
				b[at] = byte(r.Intn(256))
			case 1:
				b[at] += byte(r.Intn(5) - 2)
			case 2:
				b = slices.Delete(b, at, at+1)
			case 3:
				b = slices.Insert(b, at, byte(r.Intn(6)))
			}
		}
		b = framed(b)
		y, e := image.Decode(b)
		if e != api.OK {
			wantClosed(t, tell(seed), b, api.ErrImage)
			continue
		}
		opened++
		if again, e := image.Encode(y); e != api.OK || !bytes.Equal(again, b) {
			t.Errorf("%v opens as %s, which has the bytes %v, %v", b, short(tell(y)), again, e)
		}
	}
	if opened < 1000 {
		t.Errorf("only %d of the changed images were valid", opened)
	}
}

func TestThereAndBackAgain(t *testing.T) {
	for _, x := range someImages() {
		b, e := image.Encode(x)
		y, f := image.Decode(b)
		again, g := image.Encode(y)
		if e != api.OK || f != api.OK || g != api.OK || tell(y) != tell(x) || !bytes.Equal(again, b) {
			t.Errorf("%s is %v, %s is %v, %v", short(tell(x)), e, short(tell(y)), f, g)
		}
	}
}

// The errors have the numbers that the document lists.
func TestErrorNumbers(t *testing.T) {
	_, long := image.Decode(make([]byte, api.MaxImage+1))
	_, none := image.Decode(nil)
	if long != 2 || none != 150 {
		t.Error(int(long), int(none))
	}
}
