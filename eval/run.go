package eval

import "tiltyard/api"

// trap is what ends a run early: it is thrown, since it has to leave all
// functions, statements and expressions that are under way.
type trap int

// run is what the functions of a run share.
type run struct {
	funcs   []api.Func
	state   [][]int
	fuel    int
	active  int // functions that have begun, and not ended
	replies []api.Reply
	asks    []api.Ask
}

func (r *run) end(why trap, value int) api.End {
	return api.End{Trap: int(why), Value: value, Fuel: r.fuel, State: r.state, Asks: r.asks}
}

// spend spends 1 unit.
func (r *run) spend() {
	if r.fuel == 0 {
		panic(trap(api.TrapFuel))
	}
	r.fuel--
}

// function executes a function of the mod, and answers its result: 0 if it has none.
func (r *run) function(fn int, args []int) int {
	if r.active == api.MaxDepth {
		panic(trap(api.TrapDepth))
	}
	r.active++
	f := &frame{run: r, locals: make([]int, len(r.funcs[fn].Locals))}
	copy(f.locals, args)
	if !f.block(r.funcs[fn].Body) {
		f.spend()
	}
	r.active--
	return f.result
}

// ask calls the engine, and answers its reply to a call with a result of that type.
func (r *run) ask(call int, args []int, result int) int {
	reply := api.Reply{}
	if k := len(r.asks); k < len(r.replies) {
		reply = r.replies[k]
	}
	r.asks = append(r.asks, api.Ask{Call: call, Args: args})
	if reply.Trap {
		panic(trap(api.TrapCall))
	}
	if result == api.TyBool {
		return number(reply.Value != 0)
	}
	return reply.Value
}

// number is a bool as a value.
func number(b bool) int {
	if b {
		return 1
	}
	return 0
}
