package gen

import "tiltyard/api"

// writer writes the Code of the function that it embeds.
type writer struct{ api.Fn }

func (w *writer) do(op, a int) { w.Code = append(w.Code, api.Instr{Op: op, A: a}) }

func (w *writer) push(value, kind int) {
	w.Code = append(w.Code, api.Instr{Op: api.DoPush, A: value, B: kind})
}

// ahead writes a jump whose target is not known yet. What it answers makes the
// instruction that is written next the target.
func (w *writer) ahead(op int) func() {
	jump := len(w.Code)
	w.do(op, 0)
	return func() { w.Code[jump].A = len(w.Code) }
}

// variable writes what has to do with a variable: the one for a local variable,
// or the one for a variable of the mod.
func (w *writer) variable(local, global, place int) {
	if place >= 0 {
		w.do(local, place)
	} else {
		w.do(global, -1-place)
	}
}
