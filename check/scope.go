package check

// The sorts of what a name stands for.
const (
	sortNone = iota
	sortScalar
	sortArray
	sortFunction
)

// meaning is what a name stands for. Its kind is the type of a variable, of the
// elements of an array or of the result of a function.
type meaning struct {
	sort, kind, place int
	params            []int
}

// scope has the names that a mod, a function or a block declares. The names
// around it are in the scope that it embeds. No name stands for two things at
// one place, as whatever would be the second one is a fault: so one map serves
// variables and functions.
type scope struct {
	*scope
	names map[string]meaning
}

func newScope(around *scope) *scope {
	return &scope{scope: around, names: map[string]meaning{}}
}

func (s *scope) declare(name string, m meaning) { s.names[name] = m }

// find answers what a name stands for here, which may be nothing.
func (s *scope) find(name string) meaning {
	if s == nil {
		return meaning{}
	}
	if m, declared := s.names[name]; declared {
		return m
	}
	return s.scope.find(name)
}
