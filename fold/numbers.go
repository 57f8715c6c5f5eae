package fold

import (
	"tiltyard/api"
	"tiltyard/fix"
)

// arithmetic is what a run does with numbers of a type. Whoever divides by it
// asks first whether that traps.
type arithmetic struct {
	negate                                     func(a int) int
	add, subtract, multiply, divide, remainder func(a, b int) int
}

func ofInts() arithmetic {
	return arithmetic{
		negate:    func(a int) int { return -a },
		add:       func(a, b int) int { return a + b },
		subtract:  func(a, b int) int { return a - b },
		multiply:  func(a, b int) int { return a * b },
		divide:    func(a, b int) int { return a / b },
		remainder: func(a, b int) int { return a % b },
	}
}

// ofFixes has no remainder: check refuses that of fixes.
func ofFixes() arithmetic {
	return arithmetic{
		negate:   func(a int) int { return fix.Sub(0, a) },
		add:      fix.Add,
		subtract: fix.Sub,
		multiply: fix.Mul,
		divide: func(a, b int) int {
			quotient, _ := fix.Div(a, b)
			return quotient
		},
	}
}

func (a arithmetic) operation(op int) func(a, b int) int {
	switch op {
	case api.OpAdd:
		return a.add
	case api.OpSub:
		return a.subtract
	case api.OpMul:
		return a.multiply
	case api.OpDiv:
		return a.divide
	}
	return a.remainder
}

func traps(op, divisor int) bool {
	return divisor == 0 && (op == api.OpDiv || op == api.OpMod)
}

func compare(op, a, b int) bool {
	switch op {
	case api.OpEq:
		return a == b
	case api.OpNe:
		return a != b
	case api.OpLt:
		return a < b
	case api.OpLe:
		return a <= b
	case api.OpGt:
		return a > b
	}
	return a >= b
}

// number is a bool as a value.
func number(b bool) int {
	if b {
		return 1
	}
	return 0
}
