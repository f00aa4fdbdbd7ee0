package mach

import (
	"belated/api"
	"belated/bits"
	"belated/uir"
)

const none = -1 // where a register may stand: none

// runner is a thread of a right test.
type runner struct {
	code []api.Ins // nothing writes into it: a core and its copies share it
	at   int
	regs [api.MaxRegs]int
}

// ready is the instruction at which it stands; false at the end.
func (r *runner) ready() (api.Ins, bool) {
	if r.at == len(r.code) {
		return api.Ins{}, false
	}
	return r.code[r.at], true
}

// settle goes through all that is gone through at once.
func (r *runner) settle() {
	for i, ok := r.ready(); ok && !stops(i); i, ok = r.ready() {
		r.compute(i)
	}
}

// compute goes through an instruction that touches no memory.
func (r *runner) compute(i api.Ins) {
	r.at++
	switch i.Op {
	case api.OpConst:
		r.regs[i.Dst] = i.Imm
	case api.OpMove:
		r.regs[i.Dst] = r.regs[i.A]
	case api.OpAlu:
		r.regs[i.Dst] = bits.Alu(i.Fn, r.regs[i.A], r.regOr(i.B, i.Imm))
	case api.OpBranch:
		if (r.regs[i.A] == 0) == i.Zero {
			r.at = i.To
		}
	}
}

// spot is the footprint and the datum of a memory operation. Of an OpRmw the
// datum is the whole register: what is written hangs on what is read, too.
func (r *runner) spot() (span api.Span, datum int, ok bool) {
	i, ok := r.ready()
	if !ok || !isOp(i) {
		return api.Span{}, 0, false
	}
	switch i.Op {
	case api.OpStore:
		datum = bits.Get(r.regOr(i.A, i.Imm), 0, i.Size)
	case api.OpRmw:
		datum = r.regs[i.A]
	}
	off := bits.Place(i.Off, r.regOr(i.Index, 0), i.Size)
	return api.Span{Loc: i.Loc, Mask: bits.Mask(off, i.Size)}, datum, true
}

// pass goes past the instruction at which it stands; false at the end.
func (r *runner) pass(old int) bool {
	i, ok := r.ready()
	if !ok {
		return false
	}
	if uir.Reads(i) {
		r.regs[i.Dst] = bits.Get(old, 0, i.Size)
	}
	r.at++
	r.settle()
	return true
}

// regOr is what a register holds; other, if it is none.
func (r *runner) regOr(reg, other int) int {
	if reg == none {
		return other
	}
	return r.regs[reg]
}

// stops tells whether a thread stands at such an instruction.
func stops(i api.Ins) bool {
	return isOp(i) || i.Op == api.OpFence || i.Op == api.OpIsb
}

func isOp(i api.Ins) bool {
	return uir.Reads(i) || uir.Writes(i)
}
