package model_test

import (
	"fmt"
	"slices"
	"strconv"
	"strings"
	"testing"

	"belated/api"
	"belated/litmus"
	"belated/model"
)

type code = []api.Ins

var (
	every = []int{api.X86, api.RISCV, api.ARM}
	loose = []int{api.RISCV, api.ARM}
)

// The locations.
const (
	x = iota
	y
	z
)

// full is a full fence.
var full = fence(api.FenceR|api.FenceW, api.FenceR|api.FenceW)

// bare is an instruction of an operation, with no field that is used.
func bare(op int) api.Ins { return api.Ins{Op: op, Dst: -1, A: -1, B: -1, Index: -1} }

func konst(dst, imm int) api.Ins {
	i := bare(api.OpConst)
	i.Dst, i.Imm = dst, imm
	return i
}

func move(dst, a int) api.Ins {
	i := bare(api.OpMove)
	i.Dst, i.A = dst, a
	return i
}

func alu(fn, dst, a, b int) api.Ins {
	i := bare(api.OpAlu)
	i.Fn, i.Dst, i.A, i.B = fn, dst, a, b
	return i
}

func aluImm(fn, dst, a, imm int) api.Ins {
	i := alu(fn, dst, a, -1)
	i.Imm = imm
	return i
}

// xor is what makes 0 of a register, and hangs on what that does.
func xor(dst, a int) api.Ins { return alu(api.FnXor, dst, a, a) }

func load(dst, loc int) api.Ins {
	i := bare(api.OpLoad)
	i.Dst, i.Loc, i.Size = dst, loc, 8
	return i
}

func store(a, loc int) api.Ins {
	i := bare(api.OpStore)
	i.A, i.Loc, i.Size = a, loc, 8
	return i
}

// put is a store of a number: x86 alone writes one.
func put(loc, imm int) api.Ins {
	i := store(-1, loc)
	i.Imm = imm
	return i
}

// one, two are stores of 1 and 2, which registers 7 and 6 hold at first.
func one(loc int) api.Ins { return store(7, loc) }

func two(loc int) api.Ins { return store(6, loc) }

func rmw(fn, dst, a, loc int) api.Ins {
	i := bare(api.OpRmw)
	i.Fn, i.Dst, i.A, i.Loc, i.Size = fn, dst, a, loc, 8
	return i
}

func swap(dst, a, loc int) api.Ins { return rmw(api.FnSwap, dst, a, loc) }

func add(dst, a, loc int) api.Ins { return rmw(api.FnAdd, dst, a, loc) }

// locked is a swap of one register, as x86 has it.
func locked(reg, loc int) api.Ins { return acq(release(swap(reg, reg, loc))) }

func fence(pred, succ int) api.Ins {
	i := bare(api.OpFence)
	i.Pred, i.Succ = pred, succ
	return i
}

func isb() api.Ins { return bare(api.OpIsb) }

// ifZero, unless branch to an index if register a is 0, is not.
func ifZero(a, to int) api.Ins {
	i := unless(a, to)
	i.Zero = true
	return i
}

func unless(a, to int) api.Ins {
	i := bare(api.OpBranch)
	i.A, i.To = a, to
	return i
}

// by is an access with an Index register.
func by(index int, i api.Ins) api.Ins {
	i.Index = index
	return i
}

// part is an access of size bytes at an offset.
func part(off, size int, i api.Ins) api.Ins {
	i.Off, i.Size = off, size
	return i
}

func acq(i api.Ins) api.Ins {
	i.Acq = true
	return i
}

func weak(i api.Ins) api.Ins {
	i.Weak = true
	return i
}

func release(i api.Ins) api.Ins {
	i.Rel = true
	return i
}

func threads(codes ...code) []code { return codes }

// on is a test of these codes; registers 6 and 7 hold 2 and 1 at first.
func on(arch int, codes ...code) api.Test {
	t := api.Test{Arch: arch, Name: "t", Code: codes, Quant: api.Exists, Cond: []api.Cond{{Kind: api.CondLoc}}}
	for thread := range codes {
		t.Regs[thread][6], t.Regs[thread][7] = 2, 1
	}
	return t
}

// isRight tells whether the codes make a right test on an architecture.
func isRight(arch int, codes []code) bool { return litmus.Check(on(arch, codes...)) == api.OK }

func right(t *testing.T, what string, test api.Test) {
	t.Helper()
	if e := litmus.Check(test); e != api.OK {
		t.Fatalf("%s: the test is not right: %d: %+v", what, e, test)
	}
}

// allowed is what Allowed tells, which must be outcomes.
func allowed(t *testing.T, test api.Test, texts ...string) []api.Outcome {
	t.Helper()
	os, e, at := model.Allowed(test, texts...)
	if e != api.OK || at != 0 {
		t.Fatalf("13.2: Allowed of %+v with %q: error %d at %d", test, texts, e, at)
	}
	return os
}

// comesTo tells whether an outcome is among those that Allowed tells: one that
// has all that is asked for, in the catalogue's way: "0:1=5 x=2", register 1 of
// thread 0 is 5, x is 2.
func comesTo(t *testing.T, test api.Test, asked string, texts ...string) bool {
	t.Helper()
	return slices.ContainsFunc(allowed(t, test, texts...), func(o api.Outcome) bool { return has(t, o, asked) })
}

func has(t *testing.T, o api.Outcome, asked string) bool {
	t.Helper()
	for _, part := range strings.Fields(asked) {
		name, number, _ := strings.Cut(part, "=")
		want, err := strconv.Atoi(number)
		if err != nil {
			t.Fatalf("asked for %q", asked)
		}
		if loc := strings.Index("xyz", name); loc >= 0 {
			if o.Mem[loc] != want {
				return false
			}
			continue
		}
		var thread, reg int
		if n, err := fmt.Sscanf(name, "%d:%d", &thread, &reg); n != 2 || err != nil {
			t.Fatalf("asked for %q", asked)
		}
		if o.Regs[thread][reg] != want {
			return false
		}
	}
	return true
}
