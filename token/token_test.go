package token

import (
	"math/big"
	"math/rand"
	"regexp"
	"slices"
	"strings"
	"testing"
	"unsafe"

	"tiltyard/api"
)

const signs = "== != <= >= && || + - * / % < > ! ( ) { } [ ] , ; : ="

const words = "bool else ent false fix fn if int let null return true var while"

// wrong is the kind by which a test asks for a fault.
const wrong = 0

func named(s string, at int) api.Token {
	return api.Token{Kind: api.TokName, Text: s, At: at}
}

func word(s string, at int) api.Token {
	return api.Token{Kind: api.TokWord, Text: s, At: at}
}

func whole(s string, at int) api.Token {
	return api.Token{Kind: api.TokInt, Text: s, At: at}
}

func fixed(s string, at int) api.Token {
	return api.Token{Kind: api.TokFix, Text: s, At: at}
}

func sign(s string, at int) api.Token {
	return api.Token{Kind: api.TokSign, Text: s, At: at}
}

func end(at int) api.Token { return api.Token{Kind: api.TokEnd, At: at} }

// short spares a message the whole of a long source.
func short(s string) string { return s[:min(len(s), 100)] }

func wantTokens(t *testing.T, s string, want ...api.Token) {
	t.Helper()
	if got, f := Tokens(s); !slices.Equal(got, want) || f != (api.Fault{}) {
		t.Errorf("Tokens(%q): %v, %v, want %v", short(s), got[:min(len(got), 20)], f, want[:min(len(want), 20)])
	}
}

func wantFault(t *testing.T, s string, code api.Errno, at int) {
	t.Helper()
	if got, f := Tokens(s); len(got) != 0 || f != (api.Fault{Code: code, At: at}) {
		t.Errorf("Tokens(%q): %d tokens, %v, want the fault %d at %d", short(s), len(got), f, code, at)
	}
}

// wantOne asks for s as the only token, or as a wrong piece, wherever it stands.
func wantOne(t *testing.T, s string, kind int) {
	t.Helper()
	for _, around := range [][2]string{{"", ""}, {" ", " "}, {"a ", ";"}, {"#\n", "#"}, {"==", "=="}} {
		at, source := len(around[0]), around[0]+s+around[1]
		if kind == wrong {
			wantFault(t, source, api.ErrToken, at)
			continue
		}
		got, f := Tokens(source)
		if f != (api.Fault{}) || !slices.Contains(got, api.Token{Kind: kind, Text: s, At: at}) {
			t.Errorf("Tokens(%q): %v, %v, want the kind %d at %d", short(source), got, f, kind, at)
		}
	}
}

func TestErrorNumbers(t *testing.T) {
	if api.ErrLong != 2 || api.ErrToken != 80 {
		t.Error(api.ErrLong, api.ErrToken)
	}
}

// P8.1

func TestExamples(t *testing.T) {
	wantTokens(t, "a1=3.5; # x", named("a1", 0), sign("=", 2), fixed("3.5", 3), sign(";", 6), end(11))
	wantTokens(t, "while<=7", word("while", 0), sign("<=", 5), whole("7", 7), end(8))
	wantFault(t, "1.", api.ErrToken, 1)
	wantFault(t, "007", api.ErrToken, 0)
	wantFault(t, "a & b", api.ErrToken, 2)
	wantFault(t, "9223372036854775808", api.ErrToken, 0)
}

func TestWholeSource(t *testing.T) {
	wantTokens(t, "fn f(x:fix):fix{return x*2.0+1.0;}",
		word("fn", 0), named("f", 3), sign("(", 4), named("x", 5), sign(":", 6), word("fix", 7), sign(")", 10),
		sign(":", 11), word("fix", 12), sign("{", 15), word("return", 16), named("x", 23), sign("*", 24),
		fixed("2.0", 25), sign("+", 28), fixed("1.0", 29), sign(";", 32), sign("}", 33), end(34))
	wantTokens(t, "var a:[3]int;\n# b\n\tlet c = -10 %!d", word("var", 0), named("a", 4), sign(":", 5),
		sign("[", 6), whole("3", 7), sign("]", 8), word("int", 9), sign(";", 12), word("let", 19), named("c", 23),
		sign("=", 25), sign("-", 27), whole("10", 28), sign("%", 31), sign("!", 32), named("d", 33), end(34))
}

func TestNothingButWhiteSpace(t *testing.T) {
	for _, s := range []string{"", " ", "\t\n\r ", "#", "#\n", "# a", "## a\n#", "\n#\n\n", "#\xff\x00"} {
		wantTokens(t, s, end(len(s)))
	}
}

func TestWhiteSpaceIsFourBytes(t *testing.T) {
	for b := range 256 {
		s := "a" + string([]byte{byte(b)}) + "b"
		got, f := Tokens(s)
		white := slices.Equal(got, []api.Token{named("a", 0), named("b", 2), end(3)}) && f == (api.Fault{})
		if white != (b == 9 || b == 10 || b == 13 || b == 32) {
			t.Errorf("%q: %v, %v", s, got, f)
		}
	}
	for _, s := range []string{"\u00a0", "\u2003", "\ufeff", "\u0085", "\v", "\f", "\x00"} {
		wantFault(t, "a "+s, api.ErrToken, 2)
	}
}

func TestComments(t *testing.T) {
	wantTokens(t, "a#b\nc", named("a", 0), named("c", 4), end(5))
	wantTokens(t, "a#b#c\nd", named("a", 0), named("d", 6), end(7))
	wantTokens(t, "a#b\rc\nd", named("a", 0), named("d", 6), end(7))
	wantTokens(t, "a#b\n#c\n\n#d\ne", named("a", 0), named("e", 11), end(12))
	wantTokens(t, "a#b", named("a", 0), end(3))
	wantTokens(t, "a#\nb", named("a", 0), named("b", 3), end(4))
	wantFault(t, "1#\n.5#", api.ErrToken, 3)
	wantFault(t, "a#b\n$#\n", api.ErrToken, 4)
}

func TestCommentsHoldAnyByte(t *testing.T) {
	for b := range 256 {
		s := "a#" + string([]byte{byte(b)}) + "b"
		if b == 10 {
			wantTokens(t, s, named("a", 0), named("b", 3), end(4))
		} else {
			wantTokens(t, s, named("a", 0), end(4))
		}
	}
}

func TestWordsAndNames(t *testing.T) {
	for _, s := range strings.Fields(words) {
		wantOne(t, s, api.TokWord)
		for _, near := range []string{s + "s", s + "_", s + "1", "_" + s, "x" + s, s + s, s[1:] + "_", s[:len(s)-1] + "0"} {
			wantOne(t, near, api.TokName)
		}
		if got, f := Tokens(strings.ToUpper(s)); len(got) != 0 || f != (api.Fault{Code: api.ErrToken}) {
			t.Error(s, got, f)
		}
	}
	for _, s := range []string{"a", "z", "_", "__", "a0", "z9", "_9", "a_b", "for", "mod", "string", "nil", "elseif", "e", "tokens"} {
		wantOne(t, s, api.TokName)
	}
	wantTokens(t, "9x", whole("9", 0), named("x", 1), end(2))
	wantFault(t, "aB", api.ErrToken, 1)
}

func TestNamesAreAsLongAsPossible(t *testing.T) {
	for b := range 256 {
		c := string([]byte{byte(b)})
		got, f := Tokens("a" + c)
		in := b >= 'a' && b <= 'z' || b >= '0' && b <= '9' || b == '_'
		if in != (f.Code == api.OK && got[0] == named("a"+c, 0)) {
			t.Errorf("a%q: %v, %v", c, got, f)
		}
		got, f = Tokens(c + "0a")
		first := in && (b < '0' || b > '9')
		if first != (f.Code == api.OK && got[0] == named(c+"0a", 0)) {
			t.Errorf("%q0a: %v, %v", c, got, f)
		}
	}
}

func TestLongNames(t *testing.T) {
	for _, x := range []string{"n", "_", "a1", "if"} {
		s := strings.Repeat(x, api.MaxName)
		wantOne(t, s[:api.MaxName-1], api.TokName)
		wantOne(t, s[:api.MaxName], api.TokName)
		wantOne(t, (s + x)[:api.MaxName+1], wrong)
		wantOne(t, strings.Repeat(s, 20), wrong)
	}
	wantFault(t, "abc "+strings.Repeat("n", api.MaxName)+"0", api.ErrToken, 4)
	wantFault(t, strings.Repeat("n", api.MaxSource), api.ErrToken, 0)
}

func TestIntegers(t *testing.T) {
	for _, s := range []string{"0", "1", "9", "10", "100", "1234567890", "2147483648", "4294967296", "9223372036854775806", "9223372036854775807"} {
		wantOne(t, s, api.TokInt)
	}
	for _, s := range []string{
		"00", "01", "000", "007", "0123456789", "09223372036854775807",
		"9223372036854775808", "9223372036854775810", "9300000000000000000", "9999999999999999999", "10000000000000000000",
		// 2^64 and 2^64 + 1, which may not be taken for 0 and 1.
		"18446744073709551616", "18446744073709551617", "92233720368547758070", strings.Repeat("9", 1000), strings.Repeat("0", 1000),
	} {
		wantOne(t, s, wrong)
	}
	wantFault(t, strings.Repeat("1", api.MaxSource), api.ErrToken, 0)
	wantTokens(t, "0 0", whole("0", 0), whole("0", 2), end(3))
	wantTokens(t, "-5", sign("-", 0), whole("5", 1), end(2))
	wantTokens(t, "0x1", whole("0", 0), named("x1", 1), end(3))
	wantTokens(t, "1_0", whole("1", 0), named("_0", 1), end(3))
	wantTokens(t, "1e5", whole("1", 0), named("e5", 1), end(3))
}

func TestFixedPointNumbers(t *testing.T) {
	for _, s := range []string{
		"0.0", "1.5", "3.50", "10.01", "9.9", "1000000000.0", "2147483647.0", "2147483647.9",
		"0." + strings.Repeat("0", 32), "0." + strings.Repeat("9", 32), "2147483647." + strings.Repeat("9", 32),
	} {
		wantOne(t, s, api.TokFix)
	}
	for _, s := range []string{
		"00.0", "01.5", "007.5", "2147483648.0", "2147483650.0", "9999999999.9", "10000000000.0", "00000000001.0",
		"9223372036854775807.0", "18446744073709551617.0",
		"0." + strings.Repeat("0", 33), "1." + strings.Repeat("1", 33), "1." + strings.Repeat("1", 1000), strings.Repeat("1", 1000) + ".0",
	} {
		wantOne(t, s, wrong)
	}
	wantTokens(t, "1.5a", fixed("1.5", 0), named("a", 3), end(4))
	wantTokens(t, "1.5-2.5", fixed("1.5", 0), sign("-", 3), fixed("2.5", 4), end(7))
	wantFault(t, "a1.5", api.ErrToken, 2)
}

func TestPoints(t *testing.T) {
	for s, at := range map[string]int{
		"1.": 1, "1. ": 1, "1.;": 1, "1.a": 1, "1..": 1, "1..5": 1, "1. 5": 1, "1 .5": 2, "1.#\n5": 1, "1.-5": 1, "0.": 1,
		"00.": 0, "01.x": 0, "9223372036854775807.": 19, "9223372036854775808.": 0,
		".": 0, ".5": 0, "..": 0, " .5": 1, "a.5": 1, "a.b": 1, "1.2.": 3, "1.2.3": 3, "1.2..3": 3, "01.2.3": 0, "1.2.03": 3,
		"1.:": 1, "1./": 1, "1.\x005": 1, "1.\u0661": 1,
	} {
		wantFault(t, s, api.ErrToken, at)
	}
}

func TestOperators(t *testing.T) {
	for _, s := range strings.Fields(signs) {
		wantTokens(t, s, sign(s, 0), end(len(s)))
		wantTokens(t, "a"+s+"7", named("a", 0), sign(s, 1), whole("7", 1+len(s)), end(2+len(s)))
	}
	wantTokens(t, "===", sign("==", 0), sign("=", 2), end(3))
	wantTokens(t, "<==>", sign("<=", 0), sign("=", 2), sign(">", 3), end(4))
	wantTokens(t, "!==", sign("!=", 0), sign("=", 2), end(3))
	wantTokens(t, "= =", sign("=", 0), sign("=", 2), end(3))
	wantTokens(t, "=#\n=", sign("=", 0), sign("=", 3), end(4))
	wantTokens(t, "<<>>", sign("<", 0), sign("<", 1), sign(">", 2), sign(">", 3), end(4))
	wantTokens(t, "+=", sign("+", 0), sign("=", 1), end(2))
	wantTokens(t, "=<=!", sign("=", 0), sign("<=", 1), sign("!", 3), end(4))
	wantTokens(t, "&&&&", sign("&&", 0), sign("&&", 2), end(4))
	wantTokens(t, "--!!", sign("-", 0), sign("-", 1), sign("!", 2), sign("!", 3), end(4))
}

func TestHalfOperators(t *testing.T) {
	for s, at := range map[string]int{
		"&": 0, "|": 0, "a&": 1, "a|b": 1, "& &": 0, "| |": 0, "&|": 0, "|&": 0, "&=": 0, "|=": 0,
		"&&&": 2, "|||": 2, "a&&b|c": 4, "a||&b": 3, "&#\n&": 0,
	} {
		wantFault(t, s, api.ErrToken, at)
	}
}

func TestBytesThatBeginNoToken(t *testing.T) {
	for b := range 256 {
		c := string([]byte{byte(b)})
		begins := strings.Contains("\t\n\r #_abcdefghijklmnopqrstuvwxyz0123456789+-*/%<>!(){}[],;:=", c)
		if begins {
			if _, f := Tokens(c); f != (api.Fault{}) {
				t.Errorf("%q: %v", c, f)
			}
			continue
		}
		wantFault(t, c, api.ErrToken, 0)
		wantFault(t, "if "+c+"a", api.ErrToken, 3)
		wantFault(t, "12"+c, api.ErrToken, 2)
	}
}

func TestFirstFault(t *testing.T) {
	wantFault(t, "a $ 007 &", api.ErrToken, 2)
	wantFault(t, "a 007 $", api.ErrToken, 2)
	wantFault(t, "# $\n b & $", api.ErrToken, 7)
	wantFault(t, strings.Repeat("n", 25)+" $", api.ErrToken, 0)
	wantFault(t, "f(\"x\")", api.ErrToken, 2)
}

func TestLongSources(t *testing.T) {
	wantTokens(t, strings.Repeat(" ", api.MaxSource), end(api.MaxSource))
	wantTokens(t, "#"+strings.Repeat("$", api.MaxSource-1), end(api.MaxSource))
	wantTokens(t, strings.Repeat(" ", api.MaxSource-1)+"a", named("a", api.MaxSource-1), end(api.MaxSource))
	wantFault(t, strings.Repeat(" ", api.MaxSource-1)+"$", api.ErrToken, api.MaxSource-1)
	for _, s := range []string{" ", "#", "a", "$", "(", "1", "\xff"} {
		wantFault(t, strings.Repeat(s, api.MaxSource+1), api.ErrLong, -1)
		wantFault(t, strings.Repeat(s, 1<<20), api.ErrLong, -1)
	}
	want := []api.Token{}
	for at := range api.MaxSource {
		want = append(want, sign("(", at))
	}
	wantTokens(t, strings.Repeat("(", api.MaxSource), append(want, end(api.MaxSource))...)
}

// The chapter's words once more, as patterns: what is tried is what stands at
// the start of a piece, and each takes as much as it can.
var (
	white    = regexp.MustCompile(`^(?:[\t\n\r ]|#[^\n]*(?:\n|\z))+`)
	letters  = regexp.MustCompile(`^[a-z_][a-z_0-9]*`)
	digits   = regexp.MustCompile(`^[0-9]+(?:\.[0-9]+)?`)
	operator = regexp.MustCompile(`^(?:==|!=|<=|>=|&&|\|\||[-+*/%<>!(){}\[\],;:=])`)
	integer  = regexp.MustCompile(`^(?:0|[1-9][0-9]*)$`)
	decimal  = regexp.MustCompile(`^(0|[1-9][0-9]{0,9})\.[0-9]{1,32}$`)
)

func atMost(s string, most int64) bool {
	n, ok := new(big.Int).SetString(s, 10)
	return ok && n.Cmp(big.NewInt(most)) <= 0
}

// modelPiece is the kind and the text of what s begins with.
func modelPiece(s string) (int, string) {
	if p := letters.FindString(s); p != "" {
		if len(p) > api.MaxName {
			return wrong, p
		}
		if slices.Contains(strings.Fields(words), p) {
			return api.TokWord, p
		}
		return api.TokName, p
	}
	if p := digits.FindString(s); p != "" {
		if integer.MatchString(p) && atMost(p, api.MaxInt) {
			return api.TokInt, p
		}
		if m := decimal.FindStringSubmatch(p); m != nil && atMost(m[1], api.Whole) {
			return api.TokFix, p
		}
		return wrong, p
	}
	if p := operator.FindString(s); p != "" {
		return api.TokSign, p
	}
	return wrong, s[:1]
}

func model(s string) ([]api.Token, api.Fault) {
	var l []api.Token
	at := len(white.FindString(s))
	for at < len(s) {
		kind, text := modelPiece(s[at:])
		if kind == wrong {
			return nil, api.Fault{Code: api.ErrToken, At: at}
		}
		l = append(l, api.Token{Kind: kind, Text: text, At: at})
		at += len(text)
		at += len(white.FindString(s[at:]))
	}
	return append(l, end(len(s))), api.Fault{}
}

func wantAsModel(t *testing.T, s string) {
	t.Helper()
	want, fault := model(s)
	if got, f := Tokens(s); !slices.Equal(got, want) || f != fault {
		t.Errorf("Tokens(%q): %v, %v, want %v, %v", s, got, f, want, fault)
	}
}

// someSource is made of whole and broken tokens, with and without white space.
func someSource(r *rand.Rand, pieces []string) string {
	s := ""
	for range r.Intn(12) {
		s += pieces[r.Intn(len(pieces))]
		if r.Intn(3) == 0 {
			s += []string{" ", "\n", "\t", "\r", "#a$\n", "# "}[r.Intn(6)]
		}
	}
	return s
}

func rightPieces() []string {
	l := append(strings.Fields(signs), strings.Fields(words)...)
	return append(l, "a", "_", "x9", "nth", "0", "7", "12", "9223372036854775807", "0.0", "3.25", "2147483647.5", " ", "\n", "#\n")
}

func anyPieces() []string {
	return append(rightPieces(), ".", "&", "|", "#", "00", "5.", ".5", "A", "$", "\x00", "\xff", "\u00e9", "\f",
		"2147483648.1", "9223372036854775808", "aaaaaaaaaaa", "00000000000000000")
}

func TestShortSourcesAsModel(t *testing.T) {
	for a := range 256 {
		for b := range 256 {
			wantAsModel(t, string([]byte{byte(a), byte(b)}))
		}
	}
	const few = "a_f9i0.=!<&|+ #\n$"
	for n := range len(few) * len(few) * len(few) * len(few) {
		b := []byte{}
		for range 4 {
			b = append(b, few[n%len(few)])
			n /= len(few)
		}
		wantAsModel(t, string(b))
	}
}

func TestSourcesAsModel(t *testing.T) {
	r := rand.New(rand.NewSource(1))
	right, either := rightPieces(), anyPieces()
	for range 20000 {
		wantAsModel(t, someSource(r, right))
		wantAsModel(t, someSource(r, either))
	}
}

// P8.2

func TestWord(t *testing.T) {
	for _, s := range strings.Fields(words) {
		if !Word(s) {
			t.Error(s)
		}
		for _, near := range []string{s + " ", " " + s, s + "\n", s + "#", s + s, s + "x", s + "_", s[1:], s[:len(s)-1], strings.ToUpper(s), s + "\x00"} {
			if Word(near) {
				t.Errorf("%q", near)
			}
		}
	}
	for _, s := range []string{"", " ", "x", "_", "name", "7", "=", "for", "struct", "nil", words, "If", "\xff"} {
		if Word(s) {
			t.Errorf("%q", s)
		}
	}
}

func TestName(t *testing.T) {
	for _, s := range []string{"a", "_", "_x9", "x", "if_", "iff", "_if", "var1", "mod", strings.Repeat("z", api.MaxName)} {
		if !Name(s) {
			t.Errorf("%q", s)
		}
	}
	for _, s := range append(strings.Fields(words), "", " ", "9", "9x", "0", "A", "aB", "a b", "a ", " a", "a\n", "a#", "a-b", "a.b", "a=",
		"\xff", "a\x00", "\u00e9", "a\u00e9", "(", strings.Repeat("z", api.MaxName+1), strings.Repeat("z", 1<<20)) {
		if Name(s) {
			t.Errorf("%.50q", s)
		}
	}
}

func wantSameClass(t *testing.T, s string) {
	t.Helper()
	l, _ := Tokens(s)
	only := len(l) == 2 && l[0].Text == s
	if Word(s) != (only && l[0].Kind == api.TokWord) || Name(s) != (only && l[0].Kind == api.TokName) {
		t.Errorf("%q: %v, %v, but its tokens are %v", s, Word(s), Name(s), l)
	}
}

func TestClassesFitTokens(t *testing.T) {
	for a := range 256 {
		for b := range 256 {
			wantSameClass(t, string([]byte{byte(a), byte(b)}))
		}
	}
	r := rand.New(rand.NewSource(2))
	either := anyPieces()
	for range 20000 {
		wantSameClass(t, someSource(r, either))
	}
}

// P8.3

func sharesMemory(a, b string) bool {
	from, at := uintptr(unsafe.Pointer(unsafe.StringData(a))), uintptr(unsafe.Pointer(unsafe.StringData(b)))
	return at >= from && at < from+uintptr(len(a))
}

func TestTextsAreNew(t *testing.T) {
	s := strings.Repeat("while abc<=12 { x=3.5; }", 3)
	l, _ := Tokens(s)
	for _, x := range l {
		if x.Text != "" && sharesMemory(s, x.Text) {
			t.Error(x)
		}
	}
}

func TestListsAreNew(t *testing.T) {
	for _, s := range []string{"", "a", "a b c", "while<=7"} {
		want, _ := Tokens(s)
		first, _ := Tokens(s)
		for i := range first[:cap(first)] {
			first[:cap(first)][i] = api.Token{Kind: -1, Text: "-", At: -1}
		}
		wantTokens(t, s, want...)
	}
}

// P8.4

// join is what the consequence says: the texts, with one blank between each.
func join(l []api.Token) string {
	var texts []string
	for _, x := range l {
		texts = append(texts, x.Text)
	}
	return strings.Join(texts, " ")
}

func withoutPlaces(l []api.Token) []api.Token {
	l = slices.Clone(l)
	for i := range l {
		l[i].At = 0
	}
	return l
}

func wantConsequences(t *testing.T, s string) {
	t.Helper()
	l, f := Tokens(s)
	if f != (api.Fault{}) {
		return
	}
	at := 0
	for _, x := range l {
		if x.At < at || s[x.At:x.At+len(x.Text)] != x.Text || white.ReplaceAllString(s[at:x.At], "") != "" {
			t.Errorf("%q: %v", s, x)
			return
		}
		at = x.At + len(x.Text)
	}
	if at != len(s) {
		t.Errorf("%q ends at %d", s, at)
	}
	again, f := Tokens(join(l))
	if f != (api.Fault{}) || !slices.Equal(withoutPlaces(again), withoutPlaces(l)) {
		t.Errorf("%q: %v, but joined %v, %v", s, l, again, f)
	}
}

func TestConsequences(t *testing.T) {
	r := rand.New(rand.NewSource(3))
	right, either := rightPieces(), anyPieces()
	for range 20000 {
		wantConsequences(t, someSource(r, right))
		wantConsequences(t, someSource(r, either))
	}
	wantConsequences(t, "a1=3.5; # x")
	wantConsequences(t, "while<=7")
	wantConsequences(t, "# a\n12.5==x#b")
}
