package parse

import (
	"math/rand"
	"regexp"
	"slices"
	"strconv"
	"strings"
	"testing"

	"tiltyard/api"
	"tiltyard/fix"
	"tiltyard/token"
)

// writer writes a source token by token, and makes the tree of it as it goes on:
// it knows the offsets, the levels and the counts without reading anything.
type writer struct {
	choose *rand.Rand // what is written
	space  *rand.Rand // the white space between
	dense  bool       // no more white space than is needed
	text   []byte
	levels int
	budget int       // how many expressions and statements may be written yet
	fault  api.Fault // of the first token that is beyond a limit
}

func wordlike(c byte) bool {
	return c == '_' || c >= 'a' && c <= 'z' || c >= '0' && c <= '9'
}

// put writes a token, and answers its offset.
func (w *writer) put(text string) int {
	n := len(w.text)
	switch {
	case n > 0 && wordlike(w.text[n-1]) && wordlike(text[0]):
		w.white(1)
	case !w.dense:
		w.white(w.space.Intn(3))
	}
	at := len(w.text)
	w.text = append(w.text, text...)
	return at
}

func (w *writer) white(n int) {
	for range n {
		some := []string{" ", "\n", "\t", "\r", "#\n", "# }$;\n"}
		w.text = append(w.text, some[w.space.Intn(len(some))]...)
	}
}

func (w *writer) refuse(code api.Errno, at int) {
	if w.fault == (api.Fault{}) {
		w.fault = api.Fault{Code: code, At: at}
	}
}

// open writes a token that opens a level.
func (w *writer) open(text string) int {
	at := w.put(text)
	w.levels++
	if w.levels > api.MaxNest {
		w.refuse(api.ErrNest, at)
	}
	return at
}

func (w *writer) close(text string) {
	if text != "" {
		w.put(text)
	}
	w.levels--
}

func (w *writer) chance(percent int) bool { return w.choose.Intn(100) < percent }

// spend tells whether something more may be written that has parts.
func (w *writer) spend() bool {
	w.budget--
	return w.budget > 0
}

func (w *writer) name() (string, int) {
	some := []string{"a", "b", "x9", "_", "spawn", "tick", "iff", "long_name_of_24_letters_"}
	text := some[w.choose.Intn(len(some))]
	return text, w.put(text)
}

func (w *writer) scalar() int {
	kind := 1 + w.choose.Intn(4)
	w.put([]string{"", "int", "fix", "bool", "ent"}[kind])
	return kind
}

func (w *writer) wholeText() string {
	some := []string{"0", "1", "7", "10", "256", "4294967296", "9223372036854775807"}
	return some[w.choose.Intn(len(some))]
}

func (w *writer) fixText() string {
	some := []string{"0.0", "0.5", "1.0", "3.25", "0.1", "2147483647.9999999999", "10.00000000001"}
	return some[w.choose.Intn(len(some))]
}

func wholeOf(text string) int {
	n, _ := strconv.ParseInt(text, 10, 64)
	return int(n)
}

func fixOf(text string) int {
	n, _ := fix.Parse(text)
	return n
}

func (w *writer) sign(rank int) (op, at int) {
	all := slices.DeleteFunc(operators(), func(o binary) bool { return o.rank != rank })
	o := all[w.choose.Intn(len(all))]
	return o.op, w.put(o.text)
}

func (w *writer) expr(rank int) api.Expr {
	if rank == rankOne {
		return w.one()
	}
	left := w.expr(rank + 1)
	for n := 0; w.chance(20) && w.spend() && (n == 0 || rank != rankCmp); n++ {
		op, at := w.sign(rank)
		left = both(op, at, left, w.expr(rank+1))
	}
	return left
}

func (w *writer) one() api.Expr {
	if !w.spend() {
		text, at := w.name()
		return name(text, at)
	}
	switch w.choose.Intn(14) {
	case 0, 1:
		return w.unary("-", api.OpNeg)
	case 2:
		return w.unary("!", api.OpNot)
	case 3, 4, 5:
		w.open("(")
		e := w.expr(rankExpr)
		w.close(")")
		return e
	case 6, 7:
		text, at := w.name()
		return call(text, at, w.args()...)
	case 8, 9:
		text, at := w.name()
		return index(text, at, w.index())
	}
	return w.leaf()
}

func (w *writer) unary(text string, op int) api.Expr {
	at := w.open(text)
	e := w.one()
	w.close("")
	return unary(op, at, e)
}

func (w *writer) leaf() api.Expr {
	switch w.choose.Intn(6) {
	case 0:
		text := w.wholeText()
		return whole(wholeOf(text), w.put(text))
	case 1:
		text := w.fixText()
		return fixed(fixOf(text), w.put(text))
	case 2:
		return truth(1, w.put("true"))
	case 3:
		return truth(0, w.put("false"))
	case 4:
		return null(w.put("null"))
	}
	text, at := w.name()
	return name(text, at)
}

func (w *writer) index() api.Expr {
	w.open("[")
	e := w.expr(rankExpr)
	w.close("]")
	return e
}

func (w *writer) args() []api.Expr {
	var l []api.Expr
	w.open("(")
	for w.chance(60) {
		if len(l) > 0 {
			w.put(",")
		}
		l = append(l, w.expr(rankExpr))
	}
	w.close(")")
	return l
}

func (w *writer) block() []api.Stmt {
	var l []api.Stmt
	w.open("{")
	for w.chance(70) && w.spend() {
		l = append(l, w.stmt())
	}
	w.close("}")
	return l
}

func (w *writer) stmt() api.Stmt {
	switch w.choose.Intn(9) {
	case 0:
		return w.let()
	case 1:
		s := api.Stmt{Kind: api.StmtReturn, At: w.put("return")}
		if w.chance(70) {
			s.Exprs = []api.Expr{w.expr(rankExpr)}
		}
		w.put(";")
		return s
	case 2, 3:
		s := api.Stmt{Kind: api.StmtWhile, At: w.put("while")}
		s.Exprs = []api.Expr{w.expr(rankExpr)}
		s.Body = w.block()
		return s
	case 4, 5:
		return w.choice(w.put("if"))
	}
	return w.named()
}

func (w *writer) let() api.Stmt {
	s := api.Stmt{Kind: api.StmtLet, At: w.put("let")}
	s.Name, _ = w.name()
	w.put(":")
	s.Type = w.scalar()
	w.put("=")
	s.Exprs = []api.Expr{w.expr(rankExpr)}
	w.put(";")
	return s
}

func (w *writer) named() api.Stmt {
	text, at := w.name()
	s := api.Stmt{At: at}
	switch w.choose.Intn(3) {
	case 0:
		s.Kind = api.StmtCall
		s.Exprs = []api.Expr{call(text, at, w.args()...)}
	case 1:
		s.Kind, s.Name = api.StmtPut, text
		s.Exprs = []api.Expr{w.index()}
		w.put("=")
		s.Exprs = append(s.Exprs, w.expr(rankExpr))
	case 2:
		s.Kind, s.Name = api.StmtSet, text
		w.put("=")
		s.Exprs = []api.Expr{w.expr(rankExpr)}
	}
	w.put(";")
	return s
}

// choice writes what follows an if at that offset.
func (w *writer) choice(at int) api.Stmt {
	s := api.Stmt{Kind: api.StmtIf, At: at}
	s.Exprs = []api.Expr{w.expr(rankExpr)}
	s.Body = w.block()
	switch w.choose.Intn(4) {
	case 0:
		w.put("else")
		s.Else = w.block()
	case 1, 2:
		w.put("else")
		s.Else = []api.Stmt{w.choice(w.open("if"))}
		w.close("")
	}
	return s
}

func (w *writer) variable() api.Var {
	w.put("var")
	v := api.Var{}
	v.Name, v.At = w.name()
	w.put(":")
	if w.chance(30) {
		v.Size = w.size()
		v.Type = w.scalar()
	} else {
		v.Type = w.scalar()
		if w.chance(60) {
			w.put("=")
			v.Value = w.value(v.Type)
		}
	}
	w.put(";")
	return v
}

func (w *writer) size() int {
	n := []int{1, 2, 16, 255, 256}[w.choose.Intn(5)]
	if w.chance(2) {
		n = []int{0, 257, api.MaxInt}[w.choose.Intn(3)]
	}
	w.put("[")
	at := w.put(strconv.Itoa(n))
	if n < 1 || n > 256 {
		w.refuse(api.ErrCount, at)
	}
	w.put("]")
	return n
}

func (w *writer) value(kind int) int {
	sign := 1
	if kind <= api.TyFix && w.chance(50) {
		w.put("-")
		sign = -1
	}
	switch kind {
	case api.TyInt:
		text := w.wholeText()
		w.put(text)
		return sign * wholeOf(text)
	case api.TyFix:
		text := w.fixText()
		w.put(text)
		return sign * fixOf(text)
	case api.TyBool:
		n := w.choose.Intn(2)
		w.put([]string{"false", "true"}[n])
		return n
	}
	w.put("null")
	return 0
}

func (w *writer) function() api.Func {
	w.put("fn")
	f := api.Func{}
	f.Name, f.At = w.name()
	w.put("(")
	for w.chance(50) {
		if len(f.Params) > 0 {
			w.put(",")
		}
		text, at := w.name()
		w.put(":")
		if len(f.Params) == 8 {
			w.refuse(api.ErrCount, at)
		}
		f.Params = append(f.Params, api.Param{Name: text, Type: w.scalar()})
	}
	w.put(")")
	if w.chance(50) {
		w.put(":")
		f.Type = w.scalar()
	}
	f.Body = w.block()
	return f
}

func (w *writer) mod() api.Mod {
	m := api.Mod{}
	for w.chance(60) {
		m.Vars = append(m.Vars, w.variable())
	}
	for w.chance(70) {
		m.Funcs = append(m.Funcs, w.function())
	}
	if !w.dense {
		w.white(w.space.Intn(3))
	}
	return m
}

// written is a source, its tree and its fault, if it is beyond a limit.
func written(seed, spaceSeed int64, dense bool) (string, api.Mod, api.Fault) {
	choose := rand.New(rand.NewSource(seed))
	w := &writer{choose: choose, space: rand.New(rand.NewSource(spaceSeed)), dense: dense, budget: 1 + choose.Intn(400)}
	m := w.mod()
	return string(w.text), m, w.fault
}

func TestWrittenSources(t *testing.T) {
	count := map[api.Errno]int{}
	for seed := range int64(6000) {
		s, want, f := written(seed, seed, seed%2 == 0)
		if len(s) > api.MaxSource {
			continue
		}
		count[f.Code]++
		if f != (api.Fault{}) {
			wantFault(t, s, f.Code, f.At)
		} else {
			wantTree(t, s, want)
		}
	}
	if count[api.OK] < 1000 || count[api.ErrNest] < 100 || count[api.ErrCount] < 50 {
		t.Error("too few of a kind:", count)
	}
}

// withoutPlaces takes the offsets out of a tree that is told.
func withoutPlaces(told string) string {
	var b strings.Builder
	for i, piece := range strings.Split(told, "At:") {
		if i > 0 {
			piece = strings.TrimLeft(piece, "-0123456789")
		}
		b.WriteString(piece)
	}
	return b.String()
}

// tokenAt is the number of the token at an offset.
func tokenAt(s string, at int) int {
	tokens, _ := token.Tokens(s)
	for i, x := range tokens {
		if x.At == at {
			return i
		}
	}
	return -1
}

// P9.6
func TestWhiteSpace(t *testing.T) {
	for seed := range int64(2000) {
		s, _, _ := written(seed, seed, true)
		want, f := Parse(s)
		for spaceSeed := range int64(3) {
			other, _, _ := written(seed, spaceSeed, false)
			if len(s) > api.MaxSource || len(other) > api.MaxSource {
				continue
			}
			got, g := Parse(other)
			if withoutPlaces(tell(got)) != withoutPlaces(tell(want)) || g.Code != f.Code || f.Code != api.OK && tokenAt(other, g.At) != tokenAt(s, f.At) {
				t.Errorf("%q and %q differ: %v and %v", short(s), short(other), f, g)
			}
		}
	}
}

var wrongSize = regexp.MustCompile(`: \[ (0|\d{3,}) `)

// broken is a source of which a token or two are lost, added, or others.
func broken(random *rand.Rand, tokens []api.Token, words []word) string {
	var texts []string
	for _, x := range tokens[:len(tokens)-1] {
		texts = append(texts, x.Text)
	}
	for range 1 + random.Intn(2) {
		if len(texts) == 0 {
			break
		}
		i := random.Intn(len(texts))
		switch random.Intn(4) {
		case 0:
			texts = append(texts[:i:i], texts[i+1:]...)
		case 1:
			texts[i] = words[random.Intn(len(words))].text
		case 2:
			texts = append(texts[:i:i], append([]string{words[random.Intn(len(words))].text}, texts[i:]...)...)
		case 3:
			texts = texts[:i]
		}
	}
	return strings.Join(texts, " ")
}

func TestBrokenSources(t *testing.T) {
	r, words := readGrammar(grammar), vocabulary()
	random := rand.New(rand.NewSource(2))
	count := map[api.Errno]int{}
	for seed := range int64(4000) {
		s, _, f := written(seed, seed, true)
		if f != (api.Fault{}) || len(s) > 400 {
			continue
		}
		tokens, _ := token.Tokens(s)
		s = broken(random, tokens, words)
		// An index or a value may have become the size of an array.
		if levelsAtMost(s) > api.MaxNest || wrongSize.MatchString(s) {
			continue
		}
		tokens, _ = token.Tokens(s)
		want := modelFault(r, tokens)
		count[want.Code]++
		if want == (api.Fault{}) {
			wantRight(t, s)
		} else {
			wantFault(t, s, want.Code, want.At)
		}
	}
	if count[api.OK] < 100 || count[api.ErrSyntax] < 500 {
		t.Error("too few of a kind:", count)
	}
}

// Whatever the bytes are, Parse answers; a fault is at a token, and alone.
func TestAnyBytes(t *testing.T) {
	random := rand.New(rand.NewSource(3))
	words := vocabulary()
	for range 20000 {
		b := []byte{}
		for range random.Intn(30) {
			if random.Intn(40) == 0 {
				b = append(b, byte(random.Intn(256)))
			} else {
				b = append(b, words[random.Intn(len(words))].text+" "...)
			}
		}
		m, f := Parse(string(b))
		tokens, g := token.Tokens(string(b))
		if g != (api.Fault{}) {
			if f != g || len(m.Vars)+len(m.Funcs) != 0 {
				t.Errorf("%q: %v, %v", b, m, f)
			}
			continue
		}
		if f.Code != api.OK && (tokenAt(string(b), f.At) < 0 || len(m.Vars)+len(m.Funcs) != 0) {
			t.Errorf("%q: %v, %v, %v", b, m, f, tokens)
		}
	}
}

func TestWrittenListsAreNew(t *testing.T) {
	for seed := range int64(300) {
		if s, _, f := written(seed, seed, true); f == (api.Fault{}) && len(s) < 3000 {
			m, _ := Parse(s)
			wantNoSharedMemory(t, s, modPieces(m))
		}
	}
}
