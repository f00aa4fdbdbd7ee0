package view

import (
	"belated/api"
	"belated/uir"
)

// thread is the views of a thread, each a time, and of each location what it
// wrote there last: all 0 at first.
type thread struct {
	regs               [api.MaxRegs]int
	coherence          [api.MaxLocs]int
	oldRead, oldWrite  int
	newRead, newWrite  int
	control, release   int
	wrote, forwardable [api.MaxLocs]int // the pair: its time, and the view that one who reads it gets
}

// pass goes over an instruction, whose memory operation has that time: false, if
// it may not be.
func (s *thread) pass(i api.Ins, time int, messages row) bool {
	switch i.Op {
	case api.OpConst, api.OpMove, api.OpAlu:
		s.regs[i.Dst] = s.of(uir.Uses(i)...)
	case api.OpLoad:
		return s.load(i, time, messages)
	case api.OpStore:
		return s.store(i, time)
	case api.OpFence:
		s.fence(i)
	case api.OpIsb:
		s.newRead = max(s.newRead, s.control)
	case api.OpBranch:
		s.control = max(s.control, s.of(i.A))
	}
	return true
}

// of is the join of the views of registers; -1 is none.
func (s *thread) of(regs ...int) int {
	view := 0
	for _, reg := range regs {
		if reg >= 0 {
			view = max(view, s.regs[reg])
		}
	}
	return view
}

// load is told the time of its source.
func (s *thread) load(i api.Ins, time int, messages row) bool {
	address := s.of(i.Index)
	before := max(address, s.newRead)
	if i.Acq {
		before = max(before, s.release)
	}
	if messages.passedOver(i.Loc, time, max(before, s.coherence[i.Loc])) {
		return false
	}
	after := max(before, s.seenAt(i.Loc, time))
	s.regs[i.Dst] = after
	s.coherence[i.Loc] = max(s.coherence[i.Loc], after)
	s.oldRead = max(s.oldRead, after)
	if i.Acq || i.Weak {
		s.newRead = max(s.newRead, after)
		s.newWrite = max(s.newWrite, after)
	}
	s.control = max(s.control, address)
	return true
}

// seenAt is the view of who reads a message: of one that the thread wrote last
// itself only what that one came of, as it is handed on ahead of its time.
func (s *thread) seenAt(loc, time int) int {
	if s.wrote[loc] == time {
		return s.forwardable[loc]
	}
	return time
}

// store is told its own time.
func (s *thread) store(i api.Ins, time int) bool {
	address, datum := s.of(i.Index), s.of(i.A)
	before := max(address, datum, s.newWrite, s.control)
	if i.Rel {
		before = max(before, s.oldRead, s.oldWrite)
	}
	if max(before, s.coherence[i.Loc]) >= time {
		return false
	}
	s.coherence[i.Loc] = time // the join, as it was below
	s.oldWrite = max(s.oldWrite, time)
	if i.Rel {
		s.release = max(s.release, time)
	}
	s.control = max(s.control, address)
	s.wrote[i.Loc], s.forwardable[i.Loc] = time, max(address, datum)
	return true
}

func (s *thread) fence(i api.Ins) {
	view := 0
	if i.Pred&api.FenceR != 0 {
		view = s.oldRead
	}
	if i.Pred&api.FenceW != 0 {
		view = max(view, s.oldWrite)
	}
	if i.Succ&api.FenceR != 0 {
		s.newRead = max(s.newRead, view)
	}
	if i.Succ&api.FenceW != 0 {
		s.newWrite = max(s.newWrite, view)
	}
}
