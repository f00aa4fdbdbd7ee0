package search_test

import (
	"belated/api"
	"belated/arm"
	"belated/litmus"
	"belated/mach"
	"belated/riscv"
	"belated/x86"
)

// ins draws an instruction, at a place of n. Few registers are used, so that
// they hang on one another.
func (d *dice) ins(at, n int) api.Ins {
	reg := func() int { return d.below(4) }
	switch d.below(14) {
	case 0:
		return konst(reg(), d.value())
	case 1:
		return move(reg(), reg())
	case 2:
		return alu(1+d.below(5), reg(), reg(), reg())
	case 3, 4:
		i := unless(reg(), at+1+d.below(n-at))
		i.Zero = d.flag()
		return i
	case 5:
		return isb()
	case 6:
		return fence(1+d.below(3), 1+d.below(3))
	}
	return d.op()
}

// op draws a memory operation.
func (d *dice) op() api.Ins {
	reg := func() int { return d.below(4) }
	var i api.Ins
	switch d.below(8) {
	case 0, 1, 2:
		i = load(reg(), 0)
		i.Acq = d.below(4) == 0
		i.Weak = !i.Acq && d.below(4) == 0
	case 3, 4:
		i = store(reg(), 0)
		i.Rel = d.below(3) == 0
	case 5, 6:
		i = put(0, d.value())
		i.Rel = d.below(3) == 0
	default:
		i = rmw(d.among([]int{api.FnAdd, api.FnSwap}), reg(), reg(), 0)
		i.Acq, i.Rel = d.flag(), d.flag()
	}
	i.Loc, i.Size = d.among([]int{x, x, y, y, z}), d.among(sizes)
	i.Off = d.among(offsets[i.Size])
	if d.below(4) == 0 {
		i.Index = reg()
	}
	return i
}

// value draws a number, 0 more often than others: branches ask for it.
func (d *dice) value() int {
	if d.below(3) == 0 {
		return 0
	}
	return d.among(odd)
}

// isOf is whether an architecture's language has an instruction.
func isOf(arch int, i api.Ins) bool {
	label := ""
	if i.Op == api.OpBranch {
		label = "L"
	}
	e := api.OK
	switch arch {
	case api.X86:
		_, e = x86.Print(i, label)
	case api.RISCV:
		_, e = riscv.Print(i, label)
	case api.ARM:
		_, e = arm.Print(i, label)
	}
	return e == api.OK
}

// right draws a right test of an architecture, with codes of so many instructions
// at most, and so many threads at least.
func (d *dice) right(arch, least, most int) api.Test {
	for {
		t := test(make([]code, least+d.below(api.MaxThreads+1-least))...)
		t.Arch = arch
		for thread := range t.Code {
			n := d.below(most + 1)
			for at := 0; at < n; {
				if i := d.ins(at, n); isOf(arch, i) {
					t.Code[thread] = append(t.Code[thread], i)
					at++
				}
			}
			for reg := range t.Regs[thread] {
				t.Regs[thread][reg] = d.value()
			}
		}
		for loc := range t.Init {
			t.Init[loc] = d.value()
		}
		if litmus.Check(t) == api.OK {
			return t
		}
	}
}

// tight draws a right test of an architecture of two threads or three in which
// almost all is memory operations of few bytes, each read with a register of its
// own, each write with a value of its own.
func (d *dice) tight(arch int) api.Test {
	for {
		t := test(make([]code, 2+d.below(2))...)
		t.Arch = arch
		n := api.MaxOps / len(t.Code)
		for thread := range t.Code {
			for at := range n - d.below(2) {
				i := []api.Ins{load(at, 0), load(at, 0), store(4+at, 0), store(4+at, 0), add(at, 4+at, 0)}[d.below(5)]
				if i.Op == api.OpStore && arch == api.X86 && d.flag() {
					i = put(0, 8*thread+at+1)
				}
				i.Loc, i.Size = d.below(2), d.among(sizes[1:])
				if i.Size < 8 {
					i.Off = d.below(2) * i.Size
				}
				if at > 0 && i.Op == api.OpLoad && d.below(3) == 0 {
					i.Index = at - 1
				}
				t.Code[thread] = append(t.Code[thread], i)
				if c := fence(1+d.below(3), 1+d.below(3)); d.below(4) == 0 && isOf(arch, c) {
					t.Code[thread] = append(t.Code[thread], c)
				}
			}
			for reg := 4; reg < api.MaxRegs; reg++ {
				t.Regs[thread][reg] = 0x0101010101010101 * (8*thread + reg)
			}
		}
		if litmus.Check(t) == api.OK {
			return t
		}
	}
}

// drawn is the n-th of many right tests: of each architecture, of each kind some.
func (d *dice) drawn(n int) api.Test {
	arch := []int{api.X86, api.RISCV, api.ARM}[n%3]
	switch n / 3 % 4 {
	case 0:
		return d.right(arch, 1, api.MaxCode)
	case 1:
		return d.right(arch, 2, 4)
	}
	return d.tight(arch)
}

// midst goes some moves on, by dice, and is how many these were.
func (d *dice) midst(m mach.Machine, most int) int {
	n := 0
	for ; n < most && len(m.Moves()) > 0; n++ {
		m.Do(d.below(len(m.Moves())))
	}
	return n
}
