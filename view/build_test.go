package view_test

import (
	"math"
	"slices"
	"testing"

	"belated/api"
	"belated/cand"
	"belated/litmus"
	"belated/uir"
)

type code = []api.Ins

type file = [api.MaxRegs]int

type locs = [api.MaxLocs]int

// The locations.
const (
	x = iota
	y
	z
)

// odd are numbers at which sizes, signs and bounds go wrong.
var odd = []int{math.MinInt, math.MinInt + 1, -1 << 32, -256, -9, -8, -3, -2, -1, 0, 1, 2, 3, 4, 7, 8, 9, 255, 256, 257, 1 << 32,
	0x0102030405060708, math.MaxInt - 1, math.MaxInt}

// bare is an instruction of an operation, with no field that is used.
func bare(op int) api.Ins { return api.Ins{Op: op, Dst: -1, A: -1, B: -1, Index: -1} }

func konst(dst, imm int) api.Ins {
	i := bare(api.OpConst)
	i.Dst, i.Imm = dst, imm
	return i
}

func move(dst, a int) api.Ins {
	i := bare(api.OpMove)
	i.Dst, i.A = dst, a
	return i
}

func alu(fn, dst, a, b int) api.Ins {
	i := bare(api.OpAlu)
	i.Fn, i.Dst, i.A, i.B = fn, dst, a, b
	return i
}

func aluImm(fn, dst, a, imm int) api.Ins {
	i := alu(fn, dst, a, -1)
	i.Imm = imm
	return i
}

func load(dst, loc int) api.Ins {
	i := bare(api.OpLoad)
	i.Dst, i.Loc, i.Size = dst, loc, 8
	return i
}

func store(a, loc int) api.Ins {
	i := bare(api.OpStore)
	i.A, i.Loc, i.Size = a, loc, 8
	return i
}

// put is a store of a number: x86 alone writes one.
func put(loc, imm int) api.Ins {
	i := store(-1, loc)
	i.Imm = imm
	return i
}

// one, two are stores of 1 and 2, which registers 7 and 6 hold at first.
func one(loc int) api.Ins { return store(7, loc) }

func two(loc int) api.Ins { return store(6, loc) }

func rmw(fn, dst, a, loc int) api.Ins {
	i := bare(api.OpRmw)
	i.Fn, i.Dst, i.A, i.Loc, i.Size = fn, dst, a, loc, 8
	return i
}

func fence(pred, succ int) api.Ins {
	i := bare(api.OpFence)
	i.Pred, i.Succ = pred, succ
	return i
}

func isb() api.Ins { return bare(api.OpIsb) }

// ifZero, unless branch to an index if register a is 0, is not.
func ifZero(a, to int) api.Ins {
	i := unless(a, to)
	i.Zero = true
	return i
}

func unless(a, to int) api.Ins {
	i := bare(api.OpBranch)
	i.A, i.To = a, to
	return i
}

// by is an access with an Index register.
func by(index int, i api.Ins) api.Ins {
	i.Index = index
	return i
}

// part is an access of size bytes at an offset.
func part(off, size int, i api.Ins) api.Ins {
	i.Off, i.Size = off, size
	return i
}

// marked is an instruction with what it may have of Acq, Weak, Rel set.
func marked(acq, weak, rel bool, i api.Ins) api.Ins {
	i.Acq, i.Weak, i.Rel = acq, weak, rel
	return i
}

func acq(i api.Ins) api.Ins { return marked(true, false, false, i) }

func weak(i api.Ins) api.Ins { return marked(false, true, false, i) }

func rel(i api.Ins) api.Ins { return marked(false, false, true, i) }

// on is a test of these codes on an architecture; registers 6 and 7 hold 2 and 1
// at first.
func on(arch int, codes ...code) api.Test {
	t := api.Test{Arch: arch, Name: "t", Code: codes, Quant: api.Exists, Cond: []api.Cond{{Kind: api.CondLoc}}}
	for thread := range min(len(codes), api.MaxThreads) {
		t.Regs[thread][6], t.Regs[thread][7] = 2, 1
	}
	return t
}

// rights is the tests of these codes on RISCV and ARM that are right: it must be
// one of them at least.
func rights(t *testing.T, codes ...code) (out []api.Test) {
	t.Helper()
	for _, arch := range []int{api.RISCV, api.ARM} {
		if x := on(arch, codes...); litmus.Check(x) == api.OK {
			out = append(out, x)
		}
	}
	if len(out) == 0 {
		t.Fatalf("the test itself is wrong: %+v", codes)
	}
	return out
}

// parsed is the test of a text.
func parsed(t *testing.T, text string) api.Test {
	t.Helper()
	x, e, at := litmus.Parse(text)
	if e != api.OK {
		t.Fatalf("no test: error %d at %d: %s", e, at, text)
	}
	return x
}

// timesOf is the times of a Run's memory operations, thread by thread along the
// paths: a write's own, of a read that of its source.
func timesOf(r api.Run) (out []int) {
	for n, e := range r.Events {
		if e.Reads || e.Writes {
			out = append(out, timeOf(r, n))
		}
	}
	return out
}

// timeOf is the time of one of them.
func timeOf(r api.Run, n int) int {
	if r.Events[n].Writes {
		return slices.Index(r.Order, n) + 1
	}
	s := slices.IndexFunc(r.Sources, func(s api.Source) bool { return s.Event == n })
	if r.Sources[s].From < 0 {
		return 0
	}
	return slices.Index(r.Order, r.Sources[s].From) + 1
}

// timed is the Run of a test that has just these times: there must be one.
func timed(t *testing.T, x api.Test, times ...int) api.Run {
	t.Helper()
	var all []api.Run
	for _, r := range cand.Runs(x) {
		if slices.Equal(timesOf(r), times) {
			all = append(all, r)
		}
	}
	if len(all) != 1 {
		t.Fatalf("%d Runs have the times %v: %+v", len(all), times, x.Code)
	}
	return all[0]
}

// ops is how many memory operations a code has.
func ops(c code) int { return uir.Ops(c...) }

func reads(i api.Ins) bool { return i.Op == api.OpLoad || i.Op == api.OpRmw }

func writes(i api.Ins) bool { return i.Op == api.OpStore || i.Op == api.OpRmw }

// dice draws the same numbers at each run.
type dice uint64

func (d *dice) below(n int) int {
	*d = *d*6364136223846793005 + 1442695040888963407
	return int(uint64(*d)>>33) % n
}

func (d *dice) among(l []int) int { return l[d.below(len(l))] }

func (d *dice) flag() bool { return d.below(2) == 0 }
