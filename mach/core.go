package mach

import (
	"slices"
	"strconv"

	"belated/api"
	"belated/uir"
)

// Core is threads that run in order, each up to where it stands next.
type Core struct {
	threads []runner
}

// NewCore is the threads of a right test, at first. A test whose codes may not
// be has none here: its branches could go in a ring.
func NewCore(t api.Test) *Core {
	c := &Core{}
	if _, _, e := uir.Check(t.Code...); e != api.OK {
		return c
	}
	for n, code := range t.Code {
		r := runner{code: slices.Clone(code), regs: t.Regs[n]}
		r.settle()
		c.threads = append(c.threads, r)
	}
	return c
}

// Threads is how many there are.
func (c *Core) Threads() int {
	return len(c.threads)
}

// Ready is the instruction at which a thread stands; false at its end.
func (c *Core) Ready(thread int) (api.Ins, bool) {
	return c.of(thread).ready()
}

// Reg is what a register holds.
func (c *Core) Reg(thread, reg int) int {
	if reg < 0 || reg >= api.MaxRegs {
		return 0
	}
	return c.of(thread).regs[reg]
}

// At is the index at which a thread stands.
func (c *Core) At(thread int) int {
	return c.of(thread).at
}

// Spot is where the memory operation goes at which a thread stands, and with
// what datum; false, if it stands at none.
func (c *Core) Spot(thread int) (span api.Span, datum int, ok bool) {
	return c.of(thread).spot()
}

// Pass goes past the instruction at which a thread stands, with what was read
// if it reads; false at the thread's end.
func (c *Core) Pass(thread, old int) bool {
	return c.of(thread).pass(old)
}

// Copy is a core of its own in the same state.
func (c *Core) Copy() *Core {
	return &Core{threads: slices.Clone(c.threads)}
}

// Mark tells the states of a test's cores apart. It has as many numbers of each
// thread, with a mark behind each, so that no two states are written alike.
func (c *Core) Mark() string {
	var text []byte
	for _, r := range c.threads {
		text = strconv.AppendInt(text, int64(r.at), 10)
		for _, v := range r.regs {
			text = append(text, ' ')
			text = strconv.AppendInt(text, int64(v), 10)
		}
		text = append(text, ';')
	}
	return string(text)
}

// of is a thread. In place of one that there is not it is one without code: that
// stands at its end, at 0, and its registers hold 0.
func (c *Core) of(thread int) *runner {
	if thread < 0 || thread >= len(c.threads) {
		return &runner{}
	}
	return &c.threads[thread]
}
