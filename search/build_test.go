package search_test

import (
	"math"
	"slices"
	"testing"

	"belated/api"
	"belated/flat"
	"belated/litmus"
	"belated/mach"
	"belated/model"
	"belated/sc"
	"belated/tso"
)

type code = []api.Ins

type file = [api.MaxRegs]int

type locs = [api.MaxLocs]int

// The locations.
const (
	x = iota
	y
	z
)

var (
	sizes = []int{1, 2, 4, 8}
	// offsets is written out, so that it hangs on no rule that the program uses.
	offsets = map[int][]int{1: {0, 1, 2, 3, 4, 5, 6, 7}, 2: {0, 2, 4, 6}, 4: {0, 4}, 8: {0}}
	// odd are numbers at which sizes, signs and bounds go wrong.
	odd = []int{math.MinInt, math.MinInt + 1, -1 << 32, -256, -9, -8, -3, -2, -1, 0, 1, 2, 3, 4, 7, 8, 9, 255, 256, 257, 0x8000, 0xFFFF,
		0x10000, 0x80000000, 0xFFFFFFFF, 1 << 32, 0x0102030405060708, 0x7F6E5D4C3B2A1908, math.MaxInt - 1, math.MaxInt}
)

// bare is an instruction of an operation, with no field that is used.
func bare(op int) api.Ins { return api.Ins{Op: op, Dst: -1, A: -1, B: -1, Index: -1} }

func konst(dst, imm int) api.Ins {
	i := bare(api.OpConst)
	i.Dst, i.Imm = dst, imm
	return i
}

func move(dst, a int) api.Ins {
	i := bare(api.OpMove)
	i.Dst, i.A = dst, a
	return i
}

func alu(fn, dst, a, b int) api.Ins {
	i := bare(api.OpAlu)
	i.Fn, i.Dst, i.A, i.B = fn, dst, a, b
	return i
}

func load(dst, loc int) api.Ins {
	i := bare(api.OpLoad)
	i.Dst, i.Loc, i.Size = dst, loc, 8
	return i
}

func store(a, loc int) api.Ins {
	i := bare(api.OpStore)
	i.A, i.Loc, i.Size = a, loc, 8
	return i
}

// put is a store of a number.
func put(loc, imm int) api.Ins {
	i := store(-1, loc)
	i.Imm = imm
	return i
}

func rmw(fn, dst, a, loc int) api.Ins {
	i := bare(api.OpRmw)
	i.Fn, i.Dst, i.A, i.Loc, i.Size = fn, dst, a, loc, 8
	return i
}

func swap(dst, a, loc int) api.Ins { return rmw(api.FnSwap, dst, a, loc) }

func add(dst, a, loc int) api.Ins { return rmw(api.FnAdd, dst, a, loc) }

func fence(pred, succ int) api.Ins {
	i := bare(api.OpFence)
	i.Pred, i.Succ = pred, succ
	return i
}

func isb() api.Ins { return bare(api.OpIsb) }

// ifZero, unless branch to an index if register a is 0, is not.
func ifZero(a, to int) api.Ins {
	i := unless(a, to)
	i.Zero = true
	return i
}

func unless(a, to int) api.Ins {
	i := bare(api.OpBranch)
	i.A, i.To = a, to
	return i
}

// by is an access with an Index register.
func by(index int, i api.Ins) api.Ins {
	i.Index = index
	return i
}

// part is an access of size bytes at an offset.
func part(off, size int, i api.Ins) api.Ins {
	i.Off, i.Size = off, size
	return i
}

// test is one of these codes.
func test(codes ...code) api.Test {
	return api.Test{Arch: api.ARM, Name: "t", Code: codes, Quant: api.Exists, Cond: []api.Cond{{Kind: api.CondLoc}}}
}

// from is a test with such locations and registers at first.
func from(t api.Test, init locs, regs ...file) api.Test {
	t.Init = init
	copy(t.Regs[:], regs)
	return t
}

// parsed is the test of a text.
func parsed(t *testing.T, text string) api.Test {
	t.Helper()
	x, e, at := litmus.Parse(text)
	if e != api.OK {
		t.Fatalf("no test: error %d at %d: %s", e, at, text)
	}
	return x
}

// buffering is the test of store buffering, passing that of message passing.
func buffering() api.Test {
	return test(code{put(x, 1), load(0, y)}, code{put(y, 1), load(0, x)})
}

func passing() api.Test {
	return test(code{put(x, 1), put(y, 1)}, code{load(0, y), load(1, x)})
}

// kind is a kind of machines, and the model that allows what these come to.
type kind struct {
	name string
	make func(api.Test) mach.Machine
	text string
}

// kinds is all of them.
func kinds() []kind {
	return []kind{
		{"sc", func(t api.Test) mach.Machine { return sc.New(t) }, model.Text(0)},
		{"tso", func(t api.Test) mach.Machine { return tso.New(t) }, model.Text(api.X86)},
		{"flat", func(t api.Test) mach.Machine { return flat.New(t) }, model.Text(api.ARM)},
	}
}

// allowed is the outcomes that a model allows.
func allowed(t *testing.T, x api.Test, text string) []api.Outcome {
	t.Helper()
	all, e, _ := model.Allowed(x, text)
	if e != api.OK {
		t.Fatalf("no outcomes: error %d", e)
	}
	return all
}

// outcome is one with such locations and registers.
func outcome(mem locs, regs ...file) api.Outcome {
	o := api.Outcome{Mem: mem}
	copy(o.Regs[:], regs)
	return o
}

// do, perform, path, drain are moves; a place that is performed is its index.
func do(thread, at int) api.Move { return api.Move{Kind: api.MoveDo, Thread: thread, At: at} }

func perform(thread, at int) api.Move {
	return api.Move{Kind: api.MovePerform, Thread: thread, At: at, N: at}
}

func path(thread, n int) api.Move { return api.Move{Kind: api.MovePath, Thread: thread, N: n} }

func drain(thread int) api.Move { return api.Move{Kind: api.MoveDrain, Thread: thread} }

// can is whether a machine can do a move.
func can(m mach.Machine, move api.Move) bool { return slices.Contains(m.Moves(), move) }

// goes does moves, which must all be there.
func goes(t *testing.T, m mach.Machine, row ...api.Move) mach.Machine {
	t.Helper()
	for n, move := range row {
		if pick := slices.Index(m.Moves(), move); pick < 0 || !m.Do(pick) {
			t.Fatalf("there is no %v behind %v, but %v", move, row[:n], m.Moves())
		}
	}
	return m
}

// dice draws the same numbers at each run.
type dice uint64

func (d *dice) below(n int) int {
	*d = *d*6364136223846793005 + 1442695040888963407
	return int(uint64(*d)>>33) % n
}

func (d *dice) among(l []int) int { return l[d.below(len(l))] }

func (d *dice) flag() bool { return d.below(2) == 0 }
