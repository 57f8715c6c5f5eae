package parse

import (
	"math/rand"
	"slices"
	"strings"
	"testing"

	"tiltyard/api"
	"tiltyard/token"
)

// grammar is that of the chapter, letter by letter, but for value: it is written
// out for each of the four scalars, as the chapter says of it.
const grammar = `
mod    := { var } { func }
var    := 'var' name ':' ( given | '[' int ']' scalar ) ';'
given  := 'int' [ '=' [ '-' ] int ] | 'fix' [ '=' [ '-' ] fix ] | 'bool' [ '=' ( 'true' | 'false' ) ] | 'ent' [ '=' 'null' ]
scalar := 'int' | 'fix' | 'bool' | 'ent'
func   := 'fn' name '(' [ param { ',' param } ] ')' [ ':' scalar ] block
param  := name ':' scalar
block  := '{' { stmt } '}'
stmt   := 'let' name ':' scalar '=' expr ';' | name '=' expr ';' | name '[' expr ']' '=' expr ';' | name '(' [ args ] ')' ';' | if | 'while' expr block | 'return' [ expr ] ';'
if     := 'if' expr block [ 'else' ( block | if ) ]
args   := expr { ',' expr }
expr   := and { '||' and }
and    := cmp { '&&' cmp }
cmp    := sum [ ( '==' | '!=' | '<' | '<=' | '>' | '>=' ) sum ]
sum    := term { ( '+' | '-' ) term }
term   := one { ( '*' | '/' | '%' ) one }
one    := ( '-' | '!' ) one | atom
atom   := int | fix | 'true' | 'false' | 'null' | name [ '[' expr ']' | '(' [ args ] ')' ] | '(' expr ')'
`

// rules are the sequences that each name of the grammar stands for. A symbol
// that is no name of the grammar is a token: 'x', name, int or fix.
type rules map[string][][]string

// maker turns the lines of a grammar into rules; each bracket gets a name.
type maker struct {
	made  rules
	words []string
	named int
}

func readGrammar(text string) rules {
	m := &maker{made: rules{}}
	for _, line := range strings.Split(strings.TrimSpace(text), "\n") {
		m.words = strings.Fields(line)
		left := m.words[0]
		m.words = m.words[2:]
		m.made[left] = m.choices("")
	}
	return m.made
}

func (m *maker) choices(closing string) [][]string {
	all := [][]string{{}}
	for len(m.words) > 0 {
		word := m.words[0]
		m.words = m.words[1:]
		switch word {
		case closing:
			return all
		case "|":
			all = append(all, []string{})
			continue
		case "(", "[", "{":
			word = m.bracket(word)
		}
		all[len(all)-1] = append(all[len(all)-1], word)
	}
	return all
}

func (m *maker) bracket(opening string) string {
	m.named++
	name := "bracket" + string(rune('A'+m.named))
	inside := m.choices(map[string]string{"(": ")", "[": "]", "{": "}"}[opening])
	if opening == "{" {
		for i := range inside {
			inside[i] = append([]string{name}, inside[i]...)
		}
	}
	if opening != "(" {
		inside = append(inside, nil)
	}
	m.made[name] = inside
	return name
}

// item is a sequence of a rule as far as it was seen, and where it began.
type item struct {
	left   string
	choice int
	seen   int
	from   int
}

// recognizer is one after Earley: it holds all that the tokens so far may be, so
// it knows of every next token whether it may follow, without a choice of its own.
type recognizer struct {
	rules  rules
	sets   [][]item
	awaits []map[string]bool // for each set, the symbols that may follow
}

func newRecognizer(r rules) *recognizer {
	e := &recognizer{rules: r}
	e.grow([]item{{left: "mod"}})
	return e
}

// next is the symbol that an item waits for, or "" at its end.
func (e *recognizer) next(x item) string {
	sequence := e.rules[x.left][x.choice]
	if x.seen == len(sequence) {
		return ""
	}
	return sequence[x.seen]
}

// grow adds a set of items, with all that follows from them.
func (e *recognizer) grow(set []item) {
	at := len(e.sets)
	has := map[item]bool{}
	var todo []item
	add := func(x item) {
		if !has[x] {
			has[x] = true
			todo = append(todo, x)
		}
	}
	for _, x := range set {
		add(x)
	}
	awaits := map[string]bool{}
	ended := map[string]bool{} // what was found to be empty here
	for i := 0; i < len(todo); i++ {
		x := todo[i]
		symbol := e.next(x)
		if symbol == "" {
			waiting := todo
			if x.from < at {
				waiting = e.sets[x.from]
			} else {
				ended[x.left] = true
			}
			for _, y := range waiting {
				if e.next(y) == x.left {
					y.seen++
					add(y)
				}
			}
			continue
		}
		awaits[symbol] = true
		for choice := range e.rules[symbol] {
			add(item{left: symbol, choice: choice, from: at})
		}
		if ended[symbol] {
			x.seen++
			add(x)
		}
	}
	e.sets, e.awaits = append(e.sets, todo), append(e.awaits, awaits)
}

// symbolOf is a token as the grammar writes it.
func symbolOf(x api.Token) string {
	switch x.Kind {
	case api.TokName:
		return "name"
	case api.TokInt:
		return "int"
	case api.TokFix:
		return "fix"
	}
	return "'" + x.Text + "'"
}

// permits tells whether a token may follow.
func (e *recognizer) permits(symbol string) bool { return e.awaits[len(e.awaits)-1][symbol] }

// complete tells whether the source may end here.
func (e *recognizer) complete() bool {
	return slices.ContainsFunc(e.sets[len(e.sets)-1], func(x item) bool {
		return x.left == "mod" && x.from == 0 && e.next(x) == ""
	})
}

func (e *recognizer) take(symbol string) {
	var set []item
	for _, x := range e.sets[len(e.sets)-1] {
		if e.next(x) == symbol {
			x.seen++
			set = append(set, x)
		}
	}
	e.grow(set)
}

func (e *recognizer) drop() {
	e.sets, e.awaits = e.sets[:len(e.sets)-1], e.awaits[:len(e.awaits)-1]
}

// modelFault is the fault of a source that has tokens and keeps to all limits.
func modelFault(r rules, tokens []api.Token) api.Fault {
	e := newRecognizer(r)
	for _, x := range tokens {
		symbol := symbolOf(x)
		if x.Kind == api.TokEnd && e.complete() {
			return api.Fault{}
		}
		if x.Kind == api.TokEnd || !e.permits(symbol) {
			return api.Fault{Code: api.ErrSyntax, At: x.At}
		}
		e.take(symbol)
	}
	return api.Fault{}
}

type word struct{ text, symbol string }

// vocabulary has every token of the language: of names and numbers one each.
func vocabulary() []word {
	tokens, _ := token.Tokens("a 7 1.5 bool else ent false fix fn if int let null return true var while" +
		" == != <= >= && || + - * / % < > ! ( ) { } [ ] , ; : =")
	var all []word
	for _, x := range tokens[:len(tokens)-1] {
		all = append(all, word{x.Text, symbolOf(x)})
	}
	return all
}

func TestRecognizer(t *testing.T) {
	r := readGrammar(grammar)
	for _, s := range []string{"", "var a:int=-3;", "fn f(x:fix):fix{return x*2.0+1.0;}", "fn f(){if a{}else if b{}}", "fn f(){f();a[1]=!x&&y||z;let b:int=(1);}"} {
		tokens, _ := token.Tokens(s)
		if f := modelFault(r, tokens); f != (api.Fault{}) {
			t.Errorf("%q: %v", s, f)
		}
	}
	for s, at := range map[string]int{"fn f(){a<b<c;}": 8, "fn f(": 5, "var a:int=1.5;": 10, "fn f(a:int,){}": 11, "fn f(){x=a[1}": 12} {
		tokens, _ := token.Tokens(s)
		if f := modelFault(r, tokens); f != (api.Fault{Code: api.ErrSyntax, At: at}) {
			t.Errorf("%q: %v", s, f)
		}
	}
}

// wantNextAsGrammar holds Parse against the grammar for a source that may be
// gone on with: as it is, and with each token behind it that may not follow.
func wantNextAsGrammar(t *testing.T, e *recognizer, s string, words []word) {
	t.Helper()
	if e.complete() {
		wantRight(t, s)
	} else {
		wantFault(t, s, api.ErrSyntax, len(s))
	}
	for _, x := range words {
		if !e.permits(x.symbol) {
			wantFault(t, s+x.text+" ; } )", api.ErrSyntax, len(s))
		}
	}
}

// everyWay goes all ways that the grammar knows from s on, so many tokens far.
func everyWay(t *testing.T, e *recognizer, s string, words []word, far int) {
	wantNextAsGrammar(t, e, s, words)
	if far == 0 || t.Failed() {
		return
	}
	for _, x := range words {
		if e.permits(x.symbol) {
			e.take(x.symbol)
			everyWay(t, e, s+x.text+" ", words, far-1)
			e.drop()
		}
	}
}

func started(r rules, s string) *recognizer {
	e := newRecognizer(r)
	tokens, _ := token.Tokens(s)
	for _, x := range tokens[:len(tokens)-1] {
		e.take(symbolOf(x))
	}
	return e
}

func TestEveryWay(t *testing.T) {
	r, words := readGrammar(grammar), vocabulary()
	for s, far := range map[string]int{
		"": 8, "var a:": 5, "var a:int;": 4, "fn f(": 6, "fn f()": 4, "fn f(){": 3, "fn f(){let a:": 3,
		"fn f(){a=": 2, "fn f(){a=b": 2, "fn f(){a=b<c": 2, "fn f(){a=b==c": 1, "fn f(){a[": 2, "fn f(){a[b]": 3, "fn f(){f(": 2, "fn f(){f(a": 2, "fn f(){f(a,": 2, "fn f(){f()": 3,
		"fn f(){if a": 2, "fn f(){if a{}": 2, "fn f(){if a{}else ": 2, "fn f(){if a{}else{}": 2, "fn f(){if a{}else if b": 2, "fn f(){if a{}else if b{}": 2, "fn f(){if a{}else if b{}else": 2,
		"fn f(){while a": 2, "fn f(){while a{}": 2, "fn f(){return ": 2, "fn f(){a=-": 2, "fn f(){a=!b": 2, "fn f(){a=(b": 2, "fn f(){a=(b)": 2, "fn f(){a=b[c": 2, "fn f(){a=b[c]": 2,
		"fn f(){a=f(b": 2, "fn f(){a=f(b)": 2, "fn f(){a=b+c*d==e": 2, "fn f(){a=b&&c||d": 2, "fn f(){a=b<c&&d": 2, "fn f(){a=b<c||d": 2, "fn f(){}": 3,
	} {
		everyWay(t, started(r, s), s+" ", words, far)
	}
}

// levelsAtMost bounds how many levels a source can have.
func levelsAtMost(s string) int {
	n := 0
	for _, x := range []string{"(", "[", "{", "-", "!", "else"} {
		n += strings.Count(s, x)
	}
	return n
}

func TestLongWays(t *testing.T) {
	r, words := readGrammar(grammar), vocabulary()
	random := rand.New(rand.NewSource(1))
	for range 60 {
		e, s := newRecognizer(r), ""
		for n := 0; n < 80 && levelsAtMost(s) < api.MaxNest; n++ {
			wantNextAsGrammar(t, e, s, words)
			may := slices.DeleteFunc(slices.Clone(words), func(x word) bool { return !e.permits(x.symbol) })
			x := may[random.Intn(len(may))]
			e.take(x.symbol)
			s += x.text + " "
		}
		if t.Failed() {
			return
		}
	}
}
