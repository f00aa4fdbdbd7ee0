package cand_test

import (
	"fmt"
	"math"
	"slices"
	"strings"
	"testing"

	"belated/api"
	"belated/cand"
	"belated/litmus"
	"belated/uir"
)

type (
	code = []api.Ins
	file = [api.MaxRegs]int
)

// odd are numbers around which events, places, bytes and registers go wrong.
var odd = []int{math.MinInt, math.MinInt + 1, -1 << 32, -65, -64, -9, -8, -2, -1, 0, 1, 2, 3, 6, 7, 8, 9, 10, 31, 32, 33, 62, 63, 64, 65, 255, 256, 1 << 32, math.MaxInt - 1, math.MaxInt}

// bare is an instruction of an operation, with no field that is used.
func bare(op int) api.Ins { return api.Ins{Op: op, Dst: -1, A: -1, B: -1, Index: -1} }

func konst(dst, imm int) api.Ins {
	i := bare(api.OpConst)
	i.Dst, i.Imm = dst, imm
	return i
}

func move(dst, a int) api.Ins {
	i := bare(api.OpMove)
	i.Dst, i.A = dst, a
	return i
}

func alu(fn, dst, a, b int) api.Ins {
	i := bare(api.OpAlu)
	i.Fn, i.Dst, i.A, i.B = fn, dst, a, b
	return i
}

func aluImm(fn, dst, a, imm int) api.Ins {
	i := alu(fn, dst, a, -1)
	i.Imm = imm
	return i
}

// xor is what makes 0 of a register, and hangs on what that does.
func xor(dst, a int) api.Ins { return alu(api.FnXor, dst, a, a) }

func load(dst, loc int) api.Ins {
	i := bare(api.OpLoad)
	i.Dst, i.Loc, i.Size = dst, loc, 8
	return i
}

func store(a, loc int) api.Ins {
	i := bare(api.OpStore)
	i.A, i.Loc, i.Size = a, loc, 8
	return i
}

func put(loc, imm int) api.Ins {
	i := store(-1, loc)
	i.Imm = imm
	return i
}

func rmw(fn, dst, a, loc int) api.Ins {
	i := bare(api.OpRmw)
	i.Fn, i.Dst, i.A, i.Loc, i.Size = fn, dst, a, loc, 8
	return i
}

func swap(dst, a, loc int) api.Ins { return rmw(api.FnSwap, dst, a, loc) }

func add(dst, a, loc int) api.Ins { return rmw(api.FnAdd, dst, a, loc) }

func fence(pred, succ int) api.Ins {
	i := bare(api.OpFence)
	i.Pred, i.Succ = pred, succ
	return i
}

func isb() api.Ins { return bare(api.OpIsb) }

// ifZero, unless branch to an index if register a is 0, is not.
func ifZero(a, to int) api.Ins {
	i := unless(a, to)
	i.Zero = true
	return i
}

func unless(a, to int) api.Ins {
	i := bare(api.OpBranch)
	i.A, i.To = a, to
	return i
}

// by is an access with an Index register.
func by(index int, i api.Ins) api.Ins {
	i.Index = index
	return i
}

// part is an access of size bytes at an offset.
func part(off, size int, i api.Ins) api.Ins {
	i.Off, i.Size = off, size
	return i
}

func acq(i api.Ins) api.Ins {
	i.Acq = true
	return i
}

func weak(i api.Ins) api.Ins {
	i.Weak = true
	return i
}

func release(i api.Ins) api.Ins {
	i.Rel = true
	return i
}

// with is a test of these codes; registers 6 and 7 hold 6 and 7 at first.
func with(codes ...code) api.Test {
	t := api.Test{Arch: api.ARM, Name: "t", Code: codes, Quant: api.Exists, Cond: []api.Cond{{Kind: api.CondLoc}}}
	for thread := range codes {
		t.Regs[thread][6], t.Regs[thread][7] = 6, 7
	}
	return t
}

// right fails, if a test is not right as its architecture or as another one
// writes it; of one that mixes what they write its codes must be.
func right(t *testing.T, x api.Test) {
	t.Helper()
	for _, arch := range []int{api.X86, api.RISCV, api.ARM} {
		if x.Arch = arch; litmus.Check(x) == api.OK {
			return
		}
	}
	if _, _, e := uir.Check(x.Code...); e != api.OK {
		t.Fatalf("not right: %d: %+v", e, x)
	}
}

// whole is all that a Run tells, as a text.
func whole(r api.Run) string { return fmt.Sprint(r.Paths, r.Events, r.Order, r.Sources, r.Outcome) }

// brief is what the reads of a Run came to, by event, and its Order: 1=5; 0 2.
func brief(r api.Run) string {
	var reads []string
	for n, e := range r.Events {
		if e.Reads {
			reads = append(reads, fmt.Sprintf("%d=%d", n, e.Old))
		}
	}
	order := fmt.Sprint(r.Order)
	return strings.Join(reads, " ") + "; " + order[1:len(order)-1]
}

func briefs(runs []api.Run) []string {
	var out []string
	for _, r := range runs {
		out = append(out, brief(r))
	}
	slices.Sort(out)
	return out
}

// runsAre holds the Runs of a test against their briefs, in any order.
func runsAre(t *testing.T, what string, x api.Test, want ...string) []api.Run {
	t.Helper()
	right(t, x)
	runs := cand.Runs(x)
	slices.Sort(want)
	if got := briefs(runs); !slices.Equal(got, want) {
		t.Errorf("11.1: %s:\n got %q\nwant %q", what, got, want)
	}
	return runs
}

// theRun is the one Run of a test with that brief.
func theRun(t *testing.T, x api.Test, want string) api.Run {
	t.Helper()
	right(t, x)
	var found []api.Run
	for _, r := range cand.Runs(x) {
		if brief(r) == want {
			found = append(found, r)
		}
	}
	if len(found) != 1 {
		t.Fatalf("11.1: %d Runs %q among %q", len(found), want, briefs(cand.Runs(x)))
	}
	return found[0]
}

// dice draws the same numbers at each run.
type dice uint64

func (d *dice) below(n int) int {
	*d = *d*6364136223846793005 + 1442695040888963407
	return int(uint64(*d)>>33) % n
}

func (d *dice) among(l []int) int { return l[d.below(len(l))] }

func (d *dice) flag() bool { return d.below(2) == 0 }

// between draws an instruction that is no memory operation. Few registers are
// used, so that they hang on one another.
func (d *dice) between() api.Ins {
	a, b, dst := d.below(3), d.below(3), d.below(3)
	switch d.below(10) {
	case 0:
		return konst(dst, d.below(4))
	case 1, 2:
		return move(dst, a)
	case 3:
		return alu(1+d.below(5), dst, a, b)
	case 4:
		return xor(dst, a)
	case 5:
		return aluImm(1+d.below(5), dst, a, d.below(4))
	case 6:
		return []api.Ins{fence(1+d.below(3), 1+d.below(3)), isb()}[d.below(2)]
	}
	i := unless(a, 0)
	i.Zero = d.flag()
	return i
}

// op draws a memory operation; few locations are used, so that they meet.
func (d *dice) op(locs int) api.Ins {
	a, dst, loc := d.below(3), d.below(3), d.below(locs)
	switch d.below(9) {
	case 0, 1, 2, 3:
		return d.access(load(dst, loc))
	case 4, 5:
		return d.access(put(loc, 1+d.below(5)))
	case 6, 7:
		return d.access(store(a, loc))
	}
	return d.access(rmw([]int{api.FnAdd, api.FnSwap}[d.below(2)], dst, a, loc))
}

// access draws where an access lies, and how it is marked.
func (d *dice) access(i api.Ins) api.Ins {
	i.Size = []int{8, 8, 8, 1, 2, 4}[d.below(6)]
	i.Off = d.below(8/i.Size) * i.Size
	if d.below(3) == 0 {
		i.Index = d.below(3)
	}
	switch d.below(4) {
	case 0:
		i.Acq = i.Op != api.OpStore
	case 1:
		i.Rel = i.Op != api.OpLoad
	case 2:
		i.Weak = i.Op == api.OpLoad
	}
	return i
}

// test draws a test with right codes, of so many memory operations.
func (d *dice) test(ops int) api.Test {
	for {
		codes := make([]code, 1+d.below(api.MaxThreads))
		locs := 1 + d.below(2)
		for range ops {
			thread := d.below(len(codes))
			for d.below(5) < 2 {
				codes[thread] = append(codes[thread], d.between())
			}
			codes[thread] = append(codes[thread], d.op(locs))
		}
		for _, c := range codes {
			for at := range c {
				if c[at].Op == api.OpBranch {
					c[at].To = at + 1 + d.below(len(c)-at)
				}
			}
		}
		if _, _, e := uir.Check(codes...); e == api.OK {
			return d.filled(with(codes...))
		}
	}
}

// filled draws what a test's locations and registers hold at first.
func (d *dice) filled(x api.Test) api.Test {
	x.Init = [3]int{d.among([]int{0, 0, 1, -1, 0x0807060504030201}), d.among([]int{0, 0, 2, 0x1817161514131211}), 3}
	for thread := range x.Code {
		x.Regs[thread][0], x.Regs[thread][1] = d.below(3), d.below(9)
	}
	return x
}
