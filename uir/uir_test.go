package uir

import (
	"math"
	"slices"
	"testing"

	"belated/api"
)

// The tests hold the calls against models of their own: what may stand in a
// field is a list that is written out, a value is the eight bytes of it.

var sizes = []int{1, 2, 4, 8}

// offsets is written out, so that it hangs on no rule that the program uses.
var offsets = map[int][]int{1: {0, 1, 2, 3, 4, 5, 6, 7}, 2: {0, 2, 4, 6}, 4: {0, 4}, 8: {0}}

// odd are numbers around which registers, places and values go wrong.
var odd = []int{math.MinInt, math.MinInt + 1, -1 << 32, -256, -9, -8, -3, -2, -1, 0, 1, 2, 3, 4, 5, 6, 7, 8, 9, 10, 16, 255, 1 << 32, 1<<32 + 1, 1 << 62, math.MaxInt - 1, math.MaxInt}

// bare is an instruction of an operation, with no field that is used.
func bare(op int) api.Ins { return api.Ins{Op: op, Dst: -1, A: -1, B: -1, Index: -1} }

func konst(dst, imm int) api.Ins {
	i := bare(api.OpConst)
	i.Dst, i.Imm = dst, imm
	return i
}

func move(dst, a int) api.Ins {
	i := bare(api.OpMove)
	i.Dst, i.A = dst, a
	return i
}

func alu(fn, dst, a, b int) api.Ins {
	i := bare(api.OpAlu)
	i.Fn, i.Dst, i.A, i.B = fn, dst, a, b
	return i
}

func aluImm(fn, dst, a, imm int) api.Ins {
	i := alu(fn, dst, a, -1)
	i.Imm = imm
	return i
}

func load(dst, loc, off, size int) api.Ins {
	i := bare(api.OpLoad)
	i.Dst, i.Loc, i.Off, i.Size = dst, loc, off, size
	return i
}

func store(a, loc, off, size int) api.Ins {
	i := bare(api.OpStore)
	i.A, i.Loc, i.Off, i.Size = a, loc, off, size
	return i
}

func storeImm(imm, loc, off, size int) api.Ins {
	i := store(-1, loc, off, size)
	i.Imm = imm
	return i
}

func rmw(fn, dst, a, loc, off, size int) api.Ins {
	i := bare(api.OpRmw)
	i.Fn, i.Dst, i.A, i.Loc, i.Off, i.Size = fn, dst, a, loc, off, size
	return i
}

func fence(pred, succ int) api.Ins {
	i := bare(api.OpFence)
	i.Pred, i.Succ = pred, succ
	return i
}

func isb() api.Ins { return bare(api.OpIsb) }

// ifZero, unless branch to an index if register a is 0, is not.
func ifZero(a, to int) api.Ins {
	i := unless(a, to)
	i.Zero = true
	return i
}

func unless(a, to int) api.Ins {
	i := bare(api.OpBranch)
	i.A, i.To = a, to
	return i
}

// by is an access with an Index register.
func by(index int, i api.Ins) api.Ins {
	i.Index = index
	return i
}

func acq(i api.Ins) api.Ins {
	i.Acq = true
	return i
}

func weak(i api.Ins) api.Ins {
	i.Weak = true
	return i
}

func rel(i api.Ins) api.Ins {
	i.Rel = true
	return i
}

func times(n int, i api.Ins) []api.Ins { return slices.Repeat([]api.Ins{i}, n) }

// rights are right instructions at 0 of a code of 8, of each row of 3.1.
func rights() []api.Ins {
	return []api.Ins{
		konst(0, 0), konst(7, math.MinInt), move(0, 7), move(7, 0), move(3, 3),
		alu(api.FnAdd, 0, 1, 2), alu(api.FnOr, 7, 7, 7), aluImm(api.FnSub, 1, 2, math.MaxInt), aluImm(api.FnXor, 0, 0, 0), aluImm(api.FnAnd, 1, 2, -1),
		load(0, 0, 0, 8), by(7, load(7, 2, 6, 2)), acq(load(1, 1, 7, 1)), weak(by(0, load(1, 1, 4, 4))),
		store(0, 0, 0, 8), rel(by(7, store(7, 2, 2, 2))), storeImm(-1, 1, 4, 4), rel(storeImm(0, 0, 7, 1)), by(0, storeImm(math.MaxInt, 0, 0, 8)),
		rmw(api.FnSwap, 0, 0, 0, 0, 8), acq(rmw(api.FnAdd, 7, 1, 2, 3, 1)), rel(by(7, rmw(api.FnSwap, 0, 7, 1, 4, 4))), acq(rel(by(0, rmw(api.FnAdd, 0, 0, 0, 0, 2)))),
		fence(1, 1), fence(2, 3), fence(3, 2), fence(3, 3), isb(),
		ifZero(0, 1), ifZero(7, 8), unless(7, 1), unless(0, 8),
	}
}

// dice draws the same numbers at each run.
type dice uint64

func (d *dice) below(n int) int {
	*d = *d*6364136223846793005 + 1442695040888963407
	return int(uint64(*d)>>33) % n
}

func (d *dice) among(l []int) int { return l[d.below(len(l))] }

// 3.3

func TestOpsAndBranches(t *testing.T) {
	mixed := []api.Ins{konst(0, 1), load(0, 0, 0, 1), store(0, 0, 0, 1), rmw(api.FnAdd, 0, 0, 0, 0, 1), ifZero(0, 8), unless(0, 8), fence(1, 1), isb(), move(0, 1), alu(1, 0, 0, 0)}
	for _, x := range []struct {
		what          string
		code          []api.Ins
		ops, branches int
	}{
		{"no instructions, a nil list", nil, 0, 0},
		{"no instructions", []api.Ins{}, 0, 0},
		{"each kind of them", mixed, 3, 2},
		{"each twice", append(slices.Clone(mixed), mixed...), 6, 4},
		{"many", times(1000, rmw(api.FnSwap, 0, 0, 0, 0, 8)), 1000, 0},
		{"many branches", times(1000, ifZero(0, 1)), 0, 1000},
		{"those that are not right", []api.Ins{{Op: api.OpLoad, Size: 3}, {Op: api.OpStore}, {Op: api.OpRmw, Fn: 99}, {Op: api.OpBranch, A: -5, To: -5}}, 3, 1},
		{"operations that there are not", []api.Ins{{}, bare(0), bare(10), bare(-4), bare(-9), bare(math.MaxInt)}, 0, 0},
	} {
		if ops, branches := Ops(x.code...), Branches(x.code...); ops != x.ops || branches != x.branches {
			t.Errorf("%s: %d operations, %d branches, want %d, %d", x.what, ops, branches, x.ops, x.branches)
		}
	}
}

func TestReadsAndWrites(t *testing.T) {
	for _, op := range odd {
		for _, i := range []api.Ins{bare(op), {Op: op}, {Op: op, Acq: true, Weak: true, Rel: true, Size: 8}} {
			if got, want := Reads(i), op == 4 || op == 6; got != want {
				t.Errorf("Reads of Op %d: %v", op, got)
			}
			if got, want := Writes(i), op == 5 || op == 6; got != want {
				t.Errorf("Writes of Op %d: %v", op, got)
			}
		}
	}
}

// takes says by Op which of A (1), B (2), Index (3) it uses, and whether Dst.
var takes = map[int]struct {
	regs []int
	dst  bool
}{
	api.OpConst: {nil, true}, api.OpMove: {[]int{1}, true}, api.OpAlu: {[]int{1, 2}, true},
	api.OpLoad: {[]int{3}, true}, api.OpStore: {[]int{1, 3}, false}, api.OpRmw: {[]int{1, 3}, true},
	api.OpFence: {nil, false}, api.OpIsb: {nil, false}, api.OpBranch: {[]int{1}, false},
}

// Of all fields at once, so that one that an Op does not use shows.
func TestUsesAndGivesByOp(t *testing.T) {
	for _, op := range odd {
		for _, a := range []int{-1, 0, 3, 7} {
			for _, b := range []int{-1, 0, 3, 7} {
				for _, index := range []int{-1, 0, 3, 7} {
					usesAndGives(t, api.Ins{Op: op, Dst: 5, A: a, B: b, Index: index})
				}
			}
		}
		usesAndGives(t, api.Ins{Op: op})
		usesAndGives(t, bare(op))
	}
}

func usesAndGives(t *testing.T, i api.Ins) {
	t.Helper()
	fields := [...]int{1: i.A, 2: i.B, 3: i.Index}
	var want []int
	for _, f := range takes[i.Op].regs {
		if fields[f] != -1 {
			want = append(want, fields[f])
		}
	}
	gives := -1
	if takes[i.Op].dst {
		gives = i.Dst
	}
	if got := Uses(i); !slices.Equal(got, want) {
		t.Errorf("Uses(%+v) = %v, want %v", i, got, want)
	}
	if got := Gives(i); got != gives {
		t.Errorf("Gives(%+v) = %d, want %d", i, got, gives)
	}
}

func TestUsesAndGivesOfRightOnes(t *testing.T) {
	for _, x := range []struct {
		i     api.Ins
		uses  []int
		gives int
	}{
		{konst(3, 1), nil, 3},
		{move(3, 4), []int{4}, 3},
		{alu(api.FnXor, 3, 5, 4), []int{5, 4}, 3},
		{alu(api.FnXor, 3, 4, 4), []int{4, 4}, 3},
		{aluImm(api.FnXor, 3, 4, 9), []int{4}, 3},
		{load(3, 2, 0, 1), nil, 3},
		{by(0, load(0, 0, 0, 1)), []int{0}, 0},
		{store(6, 0, 0, 1), []int{6}, -1},
		{by(5, store(6, 0, 0, 1)), []int{6, 5}, -1},
		{storeImm(4, 0, 0, 1), nil, -1},
		{by(5, storeImm(4, 0, 0, 1)), []int{5}, -1},
		{rmw(api.FnAdd, 1, 2, 0, 0, 1), []int{2}, 1},
		{by(2, rmw(api.FnAdd, 2, 2, 0, 0, 1)), []int{2, 2}, 2},
		{fence(1, 1), nil, -1},
		{isb(), nil, -1},
		{ifZero(2, 1), []int{2}, -1},
	} {
		if uses, gives := Uses(x.i), Gives(x.i); !slices.Equal(uses, x.uses) || gives != x.gives {
			t.Errorf("%+v uses %v, gives %d, want %v, %d", x.i, uses, gives, x.uses, x.gives)
		}
	}
}

// R3: what Uses tells is new memory at each call.
func TestUsesIsNew(t *testing.T) {
	i := by(5, store(6, 0, 0, 1))
	first := Uses(i)
	first = first[:cap(first)]
	for n := range first {
		first[n] = 99
	}
	if got := Uses(i); !slices.Equal(got, []int{6, 5}) {
		t.Errorf("Uses = %v after the list ahead was written to", got)
	}
}
