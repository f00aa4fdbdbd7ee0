package flow

import (
	"belated/api"
	"belated/bits"
	"belated/uir"
)

// held is what a register holds; value 0, if that is not known.
type held struct {
	value int
	known bool
}

// file is what all registers hold. Values are worked out along the path, not
// back from the one that is asked for: so each place is passed once.
type file [api.MaxRegs]held

// begin is what registers hold ahead of all places.
func begin(regs [api.MaxRegs]int) file {
	f := file{}
	for reg, v := range regs {
		f[reg] = held{v, true}
	}
	return f
}

// oldAt is what the read at a place came to.
func oldAt(p int, olds []int, known int) held {
	if p >= len(olds) || known>>p&1 == 0 {
		return held{}
	}
	return held{olds[p], true}
}

// of is what a register holds: 0 where none stands.
func (f *file) of(reg int) held {
	if reg == none {
		return held{0, true}
	}
	if !isReg(reg) {
		return held{}
	}
	return f[reg]
}

// pass goes over an instruction; old is what it read, if it reads.
func (f *file) pass(i api.Ins, old held) {
	if dst := uir.Gives(i); isReg(dst) {
		f[dst] = f.given(i, old)
	}
}

// given is the value that an instruction gives its register.
func (f *file) given(i api.Ins, old held) held {
	switch i.Op {
	case api.OpConst:
		return held{i.Imm, true}
	case api.OpMove:
		return f.of(i.A)
	case api.OpAlu:
		return f.computed(i)
	}
	return old
}

// computed is what an OpAlu comes to. It is not known if a register of it is
// not, whatever it does with that one.
func (f *file) computed(i api.Ins) held {
	a, b := f.of(i.A), held{i.Imm, true}
	if i.B != none {
		b = f.of(i.B)
	}
	if !a.known || !b.known {
		return held{}
	}
	return held{bits.Alu(i.Fn, a.value, b.value), true}
}
