package mach_test

import (
	"encoding/binary"
	"math"
	"testing"

	"belated/api"
	"belated/mach"
	"belated/uir"
)

type code = []api.Ins

type file = [api.MaxRegs]int

// The locations.
const (
	x = iota
	y
	z
)

var (
	sizes = []int{1, 2, 4, 8}
	// offsets is written out, so that it hangs on no rule that the package uses.
	offsets = map[int][]int{1: {0, 1, 2, 3, 4, 5, 6, 7}, 2: {0, 2, 4, 6}, 4: {0, 4}, 8: {0}}
	// odd are numbers at which sizes, signs and bounds go wrong.
	odd = []int{math.MinInt, math.MinInt + 1, -1 << 32, -256, -9, -8, -3, -2, -1, 0, 1, 2, 3, 4, 7, 8, 9, 255, 256, 257, 0x8000, 0xFFFF,
		0x10000, 0x80000000, 0xFFFFFFFF, 1 << 32, 0x0102030405060708, 0x7F6E5D4C3B2A1908, math.MaxInt - 1, math.MaxInt}
)

// bare is an instruction of an operation, with no field that is used.
func bare(op int) api.Ins { return api.Ins{Op: op, Dst: -1, A: -1, B: -1, Index: -1} }

func konst(dst, imm int) api.Ins {
	i := bare(api.OpConst)
	i.Dst, i.Imm = dst, imm
	return i
}

func move(dst, a int) api.Ins {
	i := bare(api.OpMove)
	i.Dst, i.A = dst, a
	return i
}

func alu(fn, dst, a, b int) api.Ins {
	i := bare(api.OpAlu)
	i.Fn, i.Dst, i.A, i.B = fn, dst, a, b
	return i
}

func aluImm(fn, dst, a, imm int) api.Ins {
	i := alu(fn, dst, a, -1)
	i.Imm = imm
	return i
}

func load(dst, loc int) api.Ins {
	i := bare(api.OpLoad)
	i.Dst, i.Loc, i.Size = dst, loc, 8
	return i
}

func store(a, loc int) api.Ins {
	i := bare(api.OpStore)
	i.A, i.Loc, i.Size = a, loc, 8
	return i
}

// put is a store of a number.
func put(loc, imm int) api.Ins {
	i := store(-1, loc)
	i.Imm = imm
	return i
}

func rmw(fn, dst, a, loc int) api.Ins {
	i := bare(api.OpRmw)
	i.Fn, i.Dst, i.A, i.Loc, i.Size = fn, dst, a, loc, 8
	return i
}

func fence(pred, succ int) api.Ins {
	i := bare(api.OpFence)
	i.Pred, i.Succ = pred, succ
	return i
}

func isb() api.Ins { return bare(api.OpIsb) }

// ifZero, unless branch to an index if register a is 0, is not.
func ifZero(a, to int) api.Ins {
	i := unless(a, to)
	i.Zero = true
	return i
}

func unless(a, to int) api.Ins {
	i := bare(api.OpBranch)
	i.A, i.To = a, to
	return i
}

// by is an access with an Index register.
func by(index int, i api.Ins) api.Ins {
	i.Index = index
	return i
}

// part is an access of size bytes at an offset.
func part(off, size int, i api.Ins) api.Ins {
	i.Off, i.Size = off, size
	return i
}

// marked is an instruction with what it may have of Acq, Weak, Rel set.
func marked(acq, weak, rel bool, i api.Ins) api.Ins {
	i.Acq, i.Weak, i.Rel = acq, weak, rel
	return i
}

// test is one of these codes, with such registers at first, by thread.
func test(codes []code, regs ...file) api.Test {
	t := api.Test{Arch: api.ARM, Name: "t", Code: codes, Quant: api.Exists, Cond: []api.Cond{{Kind: api.CondLoc}}}
	copy(t.Regs[:], regs)
	return t
}

// core is one of a test of these codes, whose instructions must be right.
func core(t *testing.T, codes []code, regs ...file) *mach.Core {
	t.Helper()
	if thread, at, e := uir.Check(codes...); e != api.OK {
		t.Fatalf("the code is not right: error %d at %d of thread %d: %+v", e, at, thread, codes)
	}
	return mach.NewCore(test(codes, regs...))
}

// alone is a core of one thread.
func alone(t *testing.T, regs file, c ...api.Ins) *mach.Core {
	t.Helper()
	return core(t, []code{c}, regs)
}

func bytesOf(v int) (b [8]byte) {
	binary.LittleEndian.PutUint64(b[:], uint64(v))
	return b
}

func valueOf(b [8]byte) int { return int(binary.LittleEndian.Uint64(b[:])) }

// low is the low bytes of v, as a number from 0 on.
func low(v, size int) int {
	b := bytesOf(v)
	clear(b[size:])
	return valueOf(b)
}

// place is the bytes that an access of a size touches which begins there: the
// block of that size in which byte off + index of a ring of eight lies.
func place(off, index, size int) int {
	at := ((off+index%8)%8 + 8) % 8
	mask := 0
	for b := range 8 {
		if b/size == at/size {
			mask += 1 << b
		}
	}
	return mask
}

// stood is all that a core tells of a thread.
type stood struct {
	at    int
	ready bool
	ins   api.Ins
	regs  file
	spot  bool
	span  api.Span
	datum int
}

func told(c *mach.Core, thread int) stood {
	s := stood{at: c.At(thread)}
	s.ins, s.ready = c.Ready(thread)
	s.span, s.datum, s.spot = c.Spot(thread)
	for reg := range s.regs {
		s.regs[reg] = c.Reg(thread, reg)
	}
	return s
}

// tells is whether a core tells just that of a thread.
func tells(t *testing.T, what string, c *mach.Core, thread int, want stood) {
	t.Helper()
	if got := told(c, thread); got != want {
		t.Errorf("%s: thread %d\n got %+v\nwant %+v", what, thread, got, want)
	}
}

// passes goes past instructions, which must be there.
func passes(t *testing.T, c *mach.Core, thread int, olds ...int) {
	t.Helper()
	for n, old := range olds {
		if !c.Pass(thread, old) {
			t.Fatalf("14.3: Pass number %d of thread %d is false", n, thread)
		}
	}
}

// dice draws the same numbers at each run.
type dice uint64

func (d *dice) below(n int) int {
	*d = *d*6364136223846793005 + 1442695040888963407
	return int(uint64(*d)>>33) % n
}

func (d *dice) among(l []int) int { return l[d.below(len(l))] }

func (d *dice) flag() bool { return d.below(2) == 0 }
