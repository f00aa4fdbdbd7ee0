package flow

import (
	"belated/api"
	"belated/uir"
)

// walk goes back along a path. It keeps the registers that are asked for, as
// a bit a register, rather than following each by itself: so each place is
// passed once, however often registers are used.
type walk struct {
	asked int
	reads int // those that were met, a bit a place
}

// hangs is the reads on which a register hangs ahead of a place.
func hangs(code []api.Ins, path []int, at, reg int) int {
	w := walk{}
	w.ask(reg)
	for p := cut(path, at) - 1; p >= 0; p-- {
		w.pass(p, insAt(code, path, p))
	}
	return w.reads
}

// ask asks for a register; for nothing, if it is none.
func (w *walk) ask(reg int) {
	if isReg(reg) {
		w.asked |= 1 << reg
	}
}

// pass goes back over the instruction at a place: if it gives a register that
// is asked for, that one hangs on it, or on what it takes in turn.
func (w *walk) pass(p int, i api.Ins) {
	dst := uir.Gives(i)
	if !isReg(dst) || w.asked>>dst&1 == 0 {
		return
	}
	w.asked &^= 1 << dst
	if uir.Reads(i) {
		w.reads |= 1 << p
		return
	}
	for _, reg := range uir.Uses(i) {
		w.ask(reg)
	}
}
