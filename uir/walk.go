package uir

import (
	"belated/api"
	"belated/bits"
)

// walk is a run of a right code by itself.
type walk struct {
	at     int // the instruction that comes next
	regs   [api.MaxRegs]int
	reads  []int // those that are not used yet
	events []api.Event
	path   []int
}

// step goes through the instruction at w.at; false, if it reads and no read
// is left.
func (w *walk) step(i api.Ins) bool {
	to := w.at + 1
	switch i.Op {
	case api.OpConst:
		w.regs[i.Dst] = i.Imm
	case api.OpMove:
		w.regs[i.Dst] = w.regs[i.A]
	case api.OpAlu:
		w.regs[i.Dst] = bits.Alu(i.Fn, w.regs[i.A], w.regOr(i.B, i.Imm))
	case api.OpLoad, api.OpStore, api.OpRmw:
		if !w.access(i) {
			return false
		}
	case api.OpFence, api.OpIsb:
		w.events = append(w.events, w.event(i))
	case api.OpBranch:
		if (w.regs[i.A] == 0) == i.Zero {
			to = i.To
		}
	}
	w.path = append(w.path, w.at)
	w.at = to
	return true
}

// access does a memory operation. Dst is given its value at last: the Index
// and A are taken as they were ahead.
func (w *walk) access(i api.Ins) bool {
	ev := w.event(i)
	off := bits.Place(i.Off, w.regOr(i.Index, 0), i.Size)
	ev.Span = api.Span{Loc: i.Loc, Mask: bits.Mask(off, i.Size)}
	if ev.Reads {
		if len(w.reads) == 0 {
			return false
		}
		ev.Old = bits.Get(w.reads[0], 0, i.Size)
		w.reads = w.reads[1:]
	}
	if ev.Writes {
		ev.New = w.written(i, ev.Old)
	}
	if ev.Reads {
		w.regs[i.Dst] = ev.Old
	}
	w.events = append(w.events, ev)
	return true
}

// written is the low bytes that a write writes.
func (w *walk) written(i api.Ins, old int) int {
	if i.Op == api.OpRmw {
		return bits.Rmw(i.Fn, old, w.regs[i.A], i.Size)
	}
	return bits.Get(w.regOr(i.A, i.Imm), 0, i.Size)
}

// event is what stands of an event ahead of its being done.
func (w *walk) event(i api.Ins) api.Event {
	return api.Event{
		Pos: len(w.path), At: w.at, Op: i.Op,
		Reads: Reads(i), Writes: Writes(i),
		Acq: i.Acq, Weak: i.Weak, Rel: i.Rel,
		Pred: i.Pred, Succ: i.Succ,
	}
}

// regOr is what a register holds; other, if it is none.
func (w *walk) regOr(reg, other int) int {
	if reg == none {
		return other
	}
	return w.regs[reg]
}
