package sc_test

import (
	"encoding/binary"
	"math"
	"slices"
	"testing"

	"belated/api"
	"belated/litmus"
	"belated/mach"
	"belated/sc"
)

type code = []api.Ins

type file = [api.MaxRegs]int

type locs = [api.MaxLocs]int

// The locations.
const (
	x = iota
	y
	z
)

var (
	sizes = []int{1, 2, 4, 8}
	// offsets is written out, so that it hangs on no rule that the package uses.
	offsets = map[int][]int{1: {0, 1, 2, 3, 4, 5, 6, 7}, 2: {0, 2, 4, 6}, 4: {0, 4}, 8: {0}}
	// odd are numbers at which sizes, signs and bounds go wrong.
	odd = []int{math.MinInt, math.MinInt + 1, -1 << 32, -256, -9, -8, -3, -2, -1, 0, 1, 2, 3, 4, 7, 8, 9, 255, 256, 257, 0x8000, 0xFFFF,
		0x10000, 0x80000000, 0xFFFFFFFF, 1 << 32, 0x0102030405060708, 0x7F6E5D4C3B2A1908, math.MaxInt - 1, math.MaxInt}
	// bytewise are locations of which no two bytes are alike.
	bytewise = locs{0x0807060504030201, 0x1817161514131211, -0x0706050403020110}
)

// bare is an instruction of an operation, with no field that is used.
func bare(op int) api.Ins { return api.Ins{Op: op, Dst: -1, A: -1, B: -1, Index: -1} }

func konst(dst, imm int) api.Ins {
	i := bare(api.OpConst)
	i.Dst, i.Imm = dst, imm
	return i
}

func move(dst, a int) api.Ins {
	i := bare(api.OpMove)
	i.Dst, i.A = dst, a
	return i
}

func alu(fn, dst, a, b int) api.Ins {
	i := bare(api.OpAlu)
	i.Fn, i.Dst, i.A, i.B = fn, dst, a, b
	return i
}

func aluImm(fn, dst, a, imm int) api.Ins {
	i := alu(fn, dst, a, -1)
	i.Imm = imm
	return i
}

func load(dst, loc int) api.Ins {
	i := bare(api.OpLoad)
	i.Dst, i.Loc, i.Size = dst, loc, 8
	return i
}

func store(a, loc int) api.Ins {
	i := bare(api.OpStore)
	i.A, i.Loc, i.Size = a, loc, 8
	return i
}

// put is a store of a number.
func put(loc, imm int) api.Ins {
	i := store(-1, loc)
	i.Imm = imm
	return i
}

func rmw(fn, dst, a, loc int) api.Ins {
	i := bare(api.OpRmw)
	i.Fn, i.Dst, i.A, i.Loc, i.Size = fn, dst, a, loc, 8
	return i
}

func swap(dst, a, loc int) api.Ins { return rmw(api.FnSwap, dst, a, loc) }

func add(dst, a, loc int) api.Ins { return rmw(api.FnAdd, dst, a, loc) }

func fence(pred, succ int) api.Ins {
	i := bare(api.OpFence)
	i.Pred, i.Succ = pred, succ
	return i
}

func isb() api.Ins { return bare(api.OpIsb) }

// ifZero, unless branch to an index if register a is 0, is not.
func ifZero(a, to int) api.Ins {
	i := unless(a, to)
	i.Zero = true
	return i
}

func unless(a, to int) api.Ins {
	i := bare(api.OpBranch)
	i.A, i.To = a, to
	return i
}

// by is an access with an Index register.
func by(index int, i api.Ins) api.Ins {
	i.Index = index
	return i
}

// part is an access of size bytes at an offset.
func part(off, size int, i api.Ins) api.Ins {
	i.Off, i.Size = off, size
	return i
}

// marked is an instruction with what it may have of Acq, Weak, Rel set.
func marked(acq, weak, rel bool, i api.Ins) api.Ins {
	i.Acq, i.Weak, i.Rel = acq, weak, rel
	return i
}

// test is one of these codes.
func test(codes ...code) api.Test {
	return api.Test{Arch: api.ARM, Name: "t", Code: codes, Quant: api.Exists, Cond: []api.Cond{{Kind: api.CondLoc}}}
}

// from is a test with such locations and registers at first.
func from(t api.Test, init locs, regs ...file) api.Test {
	t.Init = init
	copy(t.Regs[:], regs)
	return t
}

// parsed is the test of a text.
func parsed(t *testing.T, text string) api.Test {
	t.Helper()
	x, e, at := litmus.Parse(text)
	if e != api.OK {
		t.Fatalf("no test: error %d at %d: %s", e, at, text)
	}
	return x
}

// at is a move of a thread that stands at an index.
func at(thread, index int) api.Move {
	return api.Move{Kind: api.MoveDo, Thread: thread, At: index}
}

// plays does picks, which must all be moves.
func plays(t *testing.T, m mach.Machine, picks ...int) {
	t.Helper()
	for n, pick := range picks {
		if !m.Do(pick) {
			t.Fatalf("15.1: Do(%d) is false, behind %v", pick, picks[:n])
		}
	}
}

// moves is whether a machine tells just these moves.
func moves(t *testing.T, what string, m mach.Machine, want ...api.Move) {
	t.Helper()
	if got := m.Moves(); !slices.Equal(got, want) {
		t.Errorf("15.1: %s: Moves = %v, want %v", what, got, want)
	}
	if m.Done() != (len(want) == 0) {
		t.Errorf("15.1: %s: Done is %v, with the moves %v", what, m.Done(), want)
	}
}

// state is all that hangs on what was done.
type state struct {
	at [api.MaxThreads]int
	api.Outcome
}

func told(m *sc.Machine) state {
	s := state{Outcome: m.Outcome()}
	for thread := range s.at {
		s.at[thread] = m.At(thread)
	}
	return s
}

// holds is whether a machine holds just that.
func holds(t *testing.T, what string, m *sc.Machine, want state) {
	t.Helper()
	if got := told(m); got != want {
		t.Errorf("15.1: %s:\n got %+v\nwant %+v", what, got, want)
	}
	for loc, v := range want.Mem {
		if m.Mem(loc) != v {
			t.Errorf("15.1: %s: Mem(%d) = %d, want %d", what, loc, m.Mem(loc), v)
		}
	}
	for thread, regs := range want.Regs {
		for reg, v := range regs {
			if m.Reg(thread, reg) != v {
				t.Errorf("15.1: %s: Reg(%d, %d) = %d, want %d", what, thread, reg, m.Reg(thread, reg), v)
			}
		}
	}
}

// stuck is whether a machine does nothing, and stays as it is, at numbers of
// moves that it has not.
func stuck(t *testing.T, m *sc.Machine) {
	t.Helper()
	was, key, n := told(m), m.Key(), len(m.Moves())
	for _, pick := range []int{n, n + 1, n + 2, 3, 4, 255, 256, 1 << 32, math.MaxInt, -1, -2, -n, -1 << 32, math.MinInt} {
		if (pick < 0 || pick >= n) && m.Do(pick) {
			t.Fatalf("14.1: Do(%d) is true with %d moves", pick, n)
		}
	}
	if told(m) != was || m.Key() != key || len(m.Moves()) != n {
		t.Fatalf("14.1: Do of what there is not turned %+v to %+v", was, told(m))
	}
}

func bytesOf(v int) (b [8]byte) {
	binary.LittleEndian.PutUint64(b[:], uint64(v))
	return b
}

func valueOf(b [8]byte) int { return int(binary.LittleEndian.Uint64(b[:])) }

// first is the byte of a location at which an access begins that is handed what
// its Index register holds: the block of its size in which byte off + index of
// a ring of eight lies.
func first(i api.Ins, index int) int {
	at := (i.Off + (index%8+8)%8) % 8
	return at / i.Size * i.Size
}

// dice draws the same numbers at each run.
type dice uint64

func (d *dice) below(n int) int {
	*d = *d*6364136223846793005 + 1442695040888963407
	return int(uint64(*d)>>33) % n
}

func (d *dice) among(l []int) int { return l[d.below(len(l))] }

func (d *dice) flag() bool { return d.below(2) == 0 }
