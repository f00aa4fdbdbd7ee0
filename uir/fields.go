package uir

import (
	"belated/api"
	"belated/bits"
)

// plain is i with nothing but the fields that its Op uses: all others are as
// an instruction that does not use them has them. It is the one place that
// says which fields those are.
func plain(i api.Ins) api.Ins {
	p := api.Ins{Op: i.Op, Dst: none, A: none, B: none, Index: none}
	switch i.Op {
	case api.OpConst:
		p.Dst, p.Imm = i.Dst, i.Imm
	case api.OpMove:
		p.Dst, p.A = i.Dst, i.A
	case api.OpAlu:
		p.Dst, p.Fn, p.A, p.B, p.Imm = i.Dst, i.Fn, i.A, i.B, immFor(i, i.B)
	case api.OpLoad:
		p.Dst, p.Acq, p.Weak = i.Dst, i.Acq, i.Weak
	case api.OpStore:
		p.A, p.Imm, p.Rel = i.A, immFor(i, i.A), i.Rel
	case api.OpRmw:
		p.Dst, p.A, p.Fn, p.Acq, p.Rel = i.Dst, i.A, i.Fn, i.Acq, i.Rel
	case api.OpFence:
		p.Pred, p.Succ = i.Pred, i.Succ
	case api.OpBranch:
		p.A, p.Zero, p.To = i.A, i.Zero, i.To
	}
	if isOp(i) {
		p.Loc, p.Off, p.Index, p.Size = i.Loc, i.Off, i.Index, i.Size
	}
	return p
}

// immFor is the Imm of an instruction that uses it in place of reg.
func immFor(i api.Ins, reg int) int {
	if reg != none {
		return 0
	}
	return i.Imm
}

// sound tells whether the fields that i's Op uses hold what they may.
func sound(i api.Ins) bool {
	switch i.Op {
	case api.OpConst:
		return isReg(i.Dst)
	case api.OpMove:
		return isReg(i.Dst) && isReg(i.A)
	case api.OpAlu:
		return isReg(i.Dst) && isReg(i.A) && isRegOrNone(i.B) && i.Fn >= api.FnAdd && i.Fn <= api.FnOr
	case api.OpLoad:
		return isReg(i.Dst) && isAccess(i) && !(i.Acq && i.Weak)
	case api.OpStore:
		return isRegOrNone(i.A) && isAccess(i)
	case api.OpRmw:
		return isReg(i.Dst) && isReg(i.A) && isAccess(i) && (i.Fn == api.FnSwap || i.Fn == api.FnAdd)
	case api.OpFence:
		return isFenced(i.Pred) && isFenced(i.Succ)
	case api.OpIsb:
		return true
	case api.OpBranch:
		return isReg(i.A)
	}
	return false
}

func isReg(reg int) bool {
	return reg >= 0 && reg < api.MaxRegs
}

func isRegOrNone(reg int) bool {
	return reg == none || isReg(reg)
}

// isAccess tells whether memory may be accessed so: Mask knows the sizes, and
// the offsets for them.
func isAccess(i api.Ins) bool {
	return i.Loc >= 0 && i.Loc < api.MaxLocs && isRegOrNone(i.Index) && bits.Mask(i.Off, i.Size) != 0
}

// isFenced tells whether a fence may have that as Pred, as Succ.
func isFenced(kinds int) bool {
	return kinds == api.FenceR || kinds == api.FenceW || kinds == api.FenceR|api.FenceW
}
