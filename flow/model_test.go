package flow_test

import (
	"math"
	"slices"

	"belated/api"
	"belated/uir"
)

// The tests hold the calls against models of their own: paths are looked for
// among all rows of indices, and what a register holds or hangs on is followed
// back word by word as the document says it.

type (
	code = []api.Ins
	file = [api.MaxRegs]int
)

// odd are numbers around which places, registers and indices go wrong.
var odd = []int{math.MinInt, math.MinInt + 1, -1 << 32, -65, -64, -9, -8, -2, -1, 0, 1, 2, 3, 6, 7, 8, 9, 10, 31, 32, 62, 63, 64, 65, 1 << 32, math.MaxInt - 1, math.MaxInt}

// bare is an instruction of an operation, with no field that is used.
func bare(op int) api.Ins { return api.Ins{Op: op, Dst: -1, A: -1, B: -1, Index: -1} }

func konst(dst, imm int) api.Ins {
	i := bare(api.OpConst)
	i.Dst, i.Imm = dst, imm
	return i
}

func move(dst, a int) api.Ins {
	i := bare(api.OpMove)
	i.Dst, i.A = dst, a
	return i
}

func alu(fn, dst, a, b int) api.Ins {
	i := bare(api.OpAlu)
	i.Fn, i.Dst, i.A, i.B = fn, dst, a, b
	return i
}

func aluImm(fn, dst, a, imm int) api.Ins {
	i := alu(fn, dst, a, -1)
	i.Imm = imm
	return i
}

func load(dst, loc int) api.Ins {
	i := bare(api.OpLoad)
	i.Dst, i.Loc, i.Size = dst, loc, 8
	return i
}

func store(a, loc int) api.Ins {
	i := bare(api.OpStore)
	i.A, i.Loc, i.Size = a, loc, 8
	return i
}

func storeImm(imm, loc int) api.Ins {
	i := store(-1, loc)
	i.Imm = imm
	return i
}

func rmw(fn, dst, a, loc int) api.Ins {
	i := bare(api.OpRmw)
	i.Fn, i.Dst, i.A, i.Loc, i.Size = fn, dst, a, loc, 8
	return i
}

func fence() api.Ins {
	i := bare(api.OpFence)
	i.Pred, i.Succ = api.FenceR|api.FenceW, api.FenceR|api.FenceW
	return i
}

func isb() api.Ins { return bare(api.OpIsb) }

// ifZero, unless branch to an index if register a is 0, is not.
func ifZero(a, to int) api.Ins {
	i := unless(a, to)
	i.Zero = true
	return i
}

func unless(a, to int) api.Ins {
	i := bare(api.OpBranch)
	i.A, i.To = a, to
	return i
}

// by is an access with an Index register.
func by(index int, i api.Ins) api.Ins {
	i.Index = index
	return i
}

// sized is an access of a size.
func sized(size int, i api.Ins) api.Ins {
	i.Size = size
	return i
}

// row is 0 to n - 1: the path through a code of n without a branch.
func row(n int) []int {
	out := make([]int, n)
	for k := range out {
		out[k] = k
	}
	return out
}

// places is a bit a place.
func places(l ...int) int {
	out := 0
	for _, p := range l {
		out |= 1 << p
	}
	return out
}

func right(c code) bool {
	_, _, e := uir.Check(c)
	return e == api.OK
}

// modelPaths is the paths of a right code: of all rows of rising indices those
// that go as 10.1 says. The code's end, laid behind each, sorts them: where
// two part, the next index is below To.
func modelPaths(c code) [][]int {
	var out [][]int
	for set := range 1 << len(c) {
		var p []int
		for at := range c {
			if set>>at&1 == 1 {
				p = append(p, at)
			}
		}
		if p = append(p, len(c)); goes(c, p) {
			out = append(out, p)
		}
	}
	slices.SortFunc(out, slices.Compare)
	for k, p := range out {
		out[k] = p[:len(p)-1]
	}
	return out
}

// goes tells whether a row of indices, with the code's end as its last one, is
// a path.
func goes(c code, p []int) bool {
	if p[0] != 0 {
		return false
	}
	for k := range len(p) - 1 {
		at, next := p[k], p[k+1]
		if next != at+1 && !(c[at].Op == api.OpBranch && next == c[at].To) {
			return false
		}
	}
	return true
}

func modelDef(c code, path []int, at, reg int) int {
	last := -1
	for p, index := range path {
		i := c[index]
		gives := i.Op == api.OpConst || i.Op == api.OpMove || i.Op == api.OpAlu || i.Op == api.OpLoad || i.Op == api.OpRmw
		if p < at && gives && i.Dst == reg {
			last = p
		}
	}
	return last
}

func modelValue(c code, path []int, regs file, at, reg int, olds []int, known int) (int, bool) {
	if reg == -1 {
		return 0, true
	}
	if reg < 0 || reg > 7 {
		return 0, false
	}
	p := modelDef(c, path, at, reg)
	if p < 0 {
		return regs[reg], true
	}
	i := c[path[p]]
	of := func(reg int) (int, bool) { return modelValue(c, path, regs, p, reg, olds, known) }
	switch i.Op {
	case api.OpConst:
		return i.Imm, true
	case api.OpMove:
		return of(i.A)
	case api.OpAlu:
		a, ok := of(i.A)
		b, also := i.Imm, true
		if i.B >= 0 {
			b, also = of(i.B)
		}
		if !ok || !also {
			return 0, false
		}
		return [...]int{api.FnAdd: a + b, api.FnSub: a - b, api.FnXor: a ^ b, api.FnAnd: a & b, api.FnOr: a | b}[i.Fn], true
	}
	if uint(known)&(1<<p) == 0 || len(olds) <= p {
		return 0, false
	}
	return olds[p], true
}

func modelHangs(c code, path []int, at, reg int) int {
	p := modelDef(c, path, at, reg)
	if reg < 0 || p < 0 {
		return 0
	}
	switch i := c[path[p]]; i.Op {
	case api.OpLoad, api.OpRmw:
		return 1 << p
	case api.OpMove:
		return modelHangs(c, path, p, i.A)
	case api.OpAlu:
		return modelHangs(c, path, p, i.A) | modelHangs(c, path, p, i.B)
	}
	return 0
}

func modelAddr(c code, path []int, at int) int {
	if at < 0 || at >= len(path) {
		return 0
	}
	if i := c[path[at]]; i.Op == api.OpLoad || i.Op == api.OpStore || i.Op == api.OpRmw {
		return modelHangs(c, path, at, i.Index)
	}
	return 0
}

func modelData(c code, path []int, at int) int {
	if at < 0 || at >= len(path) {
		return 0
	}
	if i := c[path[at]]; i.Op == api.OpStore || i.Op == api.OpRmw {
		return modelHangs(c, path, at, i.A)
	}
	return 0
}

func modelCtrl(c code, path []int, at int) int {
	out := 0
	for p, index := range path {
		if p < at && c[index].Op == api.OpBranch {
			out |= modelHangs(c, path, p, c[index].A)
		}
	}
	return out
}

// dice draws the same numbers at each run.
type dice uint64

func (d *dice) below(n int) int {
	*d = *d*6364136223846793005 + 1442695040888963407
	return int(uint64(*d)>>33) % n
}

func (d *dice) among(l []int) int { return l[d.below(len(l))] }

// wide is any 64 bits.
func (d *dice) wide() int {
	return d.below(1<<22) ^ d.below(1<<22)<<22 ^ d.below(1<<22)<<44
}

// maybe is a register, or none.
func (d *dice) maybe() int { return d.below(5) - 1 }

// ins draws an instruction at an index of n. Few registers are used, so that
// they hang on one another.
func (d *dice) ins(at, n int) api.Ins {
	a, b, dst := d.below(4), d.below(4), d.below(4)
	switch d.below(12) {
	case 0:
		return konst(dst, d.below(3)-1)
	case 1, 2:
		return move(dst, a)
	case 3, 4:
		return alu(1+d.below(5), dst, a, b)
	case 5:
		return aluImm(1+d.below(5), dst, a, d.among(odd))
	case 6, 7:
		return sized(1<<d.below(4), by(d.maybe(), load(dst, d.below(3))))
	case 8:
		return sized(1<<d.below(4), by(d.maybe(), d.written(a)))
	case 9:
		return sized(1<<d.below(4), by(d.maybe(), rmw([]int{api.FnAdd, api.FnSwap}[d.below(2)], dst, a, d.below(3))))
	case 10:
		return []api.Ins{fence(), isb()}[d.below(2)]
	}
	i := ifZero(a, at+1+d.below(n-at))
	i.Zero = d.below(2) == 0
	return i
}

// written is a store of a register or of a number.
func (d *dice) written(a int) api.Ins {
	if d.below(4) == 0 {
		return storeImm(d.below(9), d.below(3))
	}
	return store(a, d.below(3))
}

// code draws a right code.
func (d *dice) code() code {
	for {
		c := make(code, d.below(api.MaxCode+1))
		for at := range c {
			c[at] = d.ins(at, len(c))
		}
		if right(c) {
			return c
		}
	}
}

func (d *dice) file() file {
	var out file
	for reg := range out {
		out[reg] = d.among([]int{0, 0, 1, -1, reg + 100, d.wide()})
	}
	return out
}

func (d *dice) list(n int) []int {
	out := make([]int, n)
	for k := range out {
		out[k] = d.among([]int{0, 0, 1, -1, k + 500, d.wide()})
	}
	return out
}
