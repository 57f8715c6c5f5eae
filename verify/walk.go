package verify

import (
	"container/heap"

	"tiltyard/api"
)

// walk is the way through the Code of one function.
type walk struct {
	image   api.Image
	calls   []api.Sys
	fn      api.Fn
	number  int // of the function
	reached []arrival
	pending pending
	deepest int
}

// arrival is the stack with which an instruction was reached first.
type arrival struct {
	there bool
	stack string
}

func (w *walk) fault(e api.Errno, at int) api.Fault { return fault(e, w.number, at) }

func (w *walk) run() api.Fault {
	f := w.reach(0, "", 0)
	for f.Code == api.OK && w.pending.Len() > 0 {
		f = w.step(heap.Pop(&w.pending).(int))
	}
	return f
}

// step checks a pending instruction.
func (w *walk) step(at int) api.Fault {
	i := w.fn.Code[at]
	e, right := w.effect(i)
	if !right {
		return w.fault(operandError(i.Op), at)
	}
	stack, right := e.on(w.reached[at].stack)
	if !right || len(stack) > api.MaxStack || i.Op == api.DoRet && stack != "" {
		return w.fault(api.ErrStack, at)
	}
	switch i.Op {
	case api.DoRet:
		return w.reach(at, stack)
	case api.DoJump:
		return w.reach(at, stack, i.A)
	case api.DoElse:
		return w.reach(at, stack, i.A, at+1)
	}
	return w.reach(at, stack, at+1)
}

// operandError is that of an instruction whose A or B is wrong.
func operandError(op int) api.Errno {
	if op == api.DoJump || op == api.DoElse {
		return api.ErrJump
	}
	return api.ErrSlot
}

// reach goes from an instruction to its successors.
func (w *walk) reach(from int, stack string, successors ...int) api.Fault {
	for _, to := range successors {
		if to == len(w.fn.Code) {
			return w.fault(api.ErrJump, from)
		}
		if first := w.reached[to]; first.there {
			if first.stack != stack {
				return w.fault(api.ErrStack, to)
			}
			continue
		}
		w.reached[to] = arrival{true, stack}
		w.deepest = max(w.deepest, len(stack))
		heap.Push(&w.pending, to)
	}
	return api.Fault{}
}
