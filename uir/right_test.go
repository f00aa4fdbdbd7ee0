package uir

import (
	"math"
	"slices"
	"testing"

	"belated/api"
)

// field is an int of an instruction: where it stands, what it is if unused.
type field struct {
	name string
	of   func(i *api.Ins) *int
	rest int
}

var fields = []field{
	{"Dst", func(i *api.Ins) *int { return &i.Dst }, -1},
	{"A", func(i *api.Ins) *int { return &i.A }, -1},
	{"B", func(i *api.Ins) *int { return &i.B }, -1},
	{"Index", func(i *api.Ins) *int { return &i.Index }, -1},
	{"Imm", func(i *api.Ins) *int { return &i.Imm }, 0},
	{"Loc", func(i *api.Ins) *int { return &i.Loc }, 0},
	{"Off", func(i *api.Ins) *int { return &i.Off }, 0},
	{"Size", func(i *api.Ins) *int { return &i.Size }, 0},
	{"Fn", func(i *api.Ins) *int { return &i.Fn }, 0},
	{"Pred", func(i *api.Ins) *int { return &i.Pred }, 0},
	{"Succ", func(i *api.Ins) *int { return &i.Succ }, 0},
	{"To", func(i *api.Ins) *int { return &i.To }, 0},
}

// flag is a bool of an instruction.
type flag struct {
	name string
	of   func(i *api.Ins) *bool
}

var flags = []flag{
	{"Acq", func(i *api.Ins) *bool { return &i.Acq }},
	{"Weak", func(i *api.Ins) *bool { return &i.Weak }},
	{"Rel", func(i *api.Ins) *bool { return &i.Rel }},
	{"Zero", func(i *api.Ins) *bool { return &i.Zero }},
}

// A row of the chapter's table: what each field that is used may hold; a
// field with no list may hold anything.
type row struct {
	op    int
	may   map[string][]int
	flags []string
}

var (
	regs   = []int{0, 1, 2, 3, 4, 5, 6, 7}
	orNone = []int{-1, 0, 1, 2, 3, 4, 5, 6, 7}
	locs   = []int{0, 1, 2}
	kinds  = []int{1, 2, 3}
	minus  = []int{-1}
)

// access is a row of one that touches memory.
func access(op int, may map[string][]int, flags ...string) row {
	may["Loc"], may["Index"], may["Size"], may["Off"] = locs, orNone, sizes, nil
	return row{op, may, flags}
}

func rows() []row {
	return []row{
		{api.OpConst, map[string][]int{"Dst": regs, "Imm": nil}, nil},
		{api.OpMove, map[string][]int{"Dst": regs, "A": regs}, nil},
		{api.OpAlu, map[string][]int{"Dst": regs, "Fn": {1, 2, 3, 4, 5}, "A": regs, "B": regs}, nil},
		{api.OpAlu, map[string][]int{"Dst": regs, "Fn": {1, 2, 3, 4, 5}, "A": regs, "B": minus, "Imm": nil}, nil},
		access(api.OpLoad, map[string][]int{"Dst": regs}, "Acq"),
		access(api.OpLoad, map[string][]int{"Dst": regs}, "Weak"),
		access(api.OpStore, map[string][]int{"A": regs}, "Rel"),
		access(api.OpStore, map[string][]int{"A": minus, "Imm": nil}, "Rel"),
		access(api.OpRmw, map[string][]int{"Dst": regs, "A": regs, "Fn": {1, 6}}, "Acq", "Rel"),
		{api.OpFence, map[string][]int{"Pred": kinds, "Succ": kinds}, nil},
		{api.OpIsb, map[string][]int{}, nil},
		{api.OpBranch, map[string][]int{"A": regs, "To": nil}, []string{"Zero"}},
	}
}

// allows tells whether an instruction is as the row has it.
func (r row) allows(i api.Ins) bool {
	if i.Op != r.op {
		return false
	}
	for _, f := range fields {
		v := *f.of(&i)
		list, used := r.may[f.name]
		if !used && v != f.rest || list != nil && !slices.Contains(list, v) {
			return false
		}
	}
	for _, f := range flags {
		if *f.of(&i) && !slices.Contains(r.flags, f.name) {
			return false
		}
	}
	_, memory := r.may["Off"]
	return !memory || slices.Contains(offsets[i.Size], i.Off)
}

// asked is what Right must say of an instruction at 0 of 8.
func asked(table []row, i api.Ins) api.Errno {
	if !slices.ContainsFunc(table, func(r row) bool { return r.allows(i) }) {
		return api.ErrIns
	}
	if i.Op == api.OpBranch && !slices.Contains([]int{1, 2, 3, 4, 5, 6, 7, 8}, i.To) {
		return api.ErrTarget
	}
	return api.OK
}

// turned is all that become of an instruction by turning one thing of it.
func turned(i api.Ins, values []int) []api.Ins {
	var out []api.Ins
	for _, v := range values {
		for _, f := range fields {
			j := i
			*f.of(&j) = v
			out = append(out, j)
		}
		j := i
		j.Op = v
		out = append(out, j)
	}
	for _, f := range flags {
		j := i
		*f.of(&j) = !*f.of(&j)
		out = append(out, j)
	}
	return out
}

// 3.1, 3.2

func TestRightOfRightOnes(t *testing.T) {
	for _, i := range rights() {
		if e := Right(i, 0, 8); e != api.OK {
			t.Errorf("Right(%+v, 0, 8) = %d", i, e)
		}
	}
}

func TestRightWithOneThingTurned(t *testing.T) {
	table := rows()
	for _, i := range rights() {
		for _, j := range turned(i, odd) {
			if e, want := Right(j, 0, 8), asked(table, j); e != want {
				t.Errorf("Right(%+v, 0, 8) = %d, want %d", j, e, want)
			}
		}
	}
}

func TestRightWithTwoThingsTurned(t *testing.T) {
	table, few := rows(), []int{-2, -1, 0, 1, 2, 3, 4, 6, 7, 8}
	for _, i := range rights() {
		for _, j := range turned(i, few) {
			for _, k := range turned(j, few) {
				if e, want := Right(k, 0, 8), asked(table, k); e != want {
					t.Fatalf("Right(%+v, 0, 8) = %d, want %d", k, e, want)
				}
			}
		}
	}
}

func TestRightOfWrongOnes(t *testing.T) {
	both := acq(weak(load(0, 0, 0, 8)))
	for _, x := range []struct {
		what string
		i    api.Ins
	}{
		{"the zero value", api.Ins{}},
		{"an Op below", bare(0)}, {"an Op above", bare(10)}, {"an Op below 0", bare(-1)},
		{"a load of Size 3", load(1, 0, 0, 3)}, {"of Size 0", load(1, 0, 0, 0)}, {"of Size 16", load(1, 0, 0, 16)}, {"of Size -8", load(1, 0, 0, -8)},
		{"an offset that is no multiple", load(1, 0, 3, 2)}, {"one that ends behind 8", load(1, 0, 8, 1)}, {"one below 0", store(1, 0, -8, 8)},
		{"Loc -1", load(1, -1, 0, 8)}, {"Loc 3", store(1, 3, 0, 8)}, {"a Loc of many", rmw(api.FnAdd, 1, 1, math.MaxInt, 0, 8)},
		{"both Acq and Weak", both}, {"a load with Rel", rel(load(1, 0, 0, 8))}, {"a store with Acq", acq(store(1, 0, 0, 8))}, {"a store with Weak", weak(store(1, 0, 0, 8))},
		{"an OpRmw with Weak", weak(rmw(api.FnAdd, 1, 1, 0, 0, 8))}, {"an OpRmw of FnSub", rmw(api.FnSub, 1, 1, 0, 0, 8)}, {"an OpRmw without A", rmw(api.FnSwap, 1, -1, 0, 0, 8)},
		{"an OpAlu of FnSwap", alu(api.FnSwap, 1, 1, 1)}, {"an OpAlu of Fn 0", alu(0, 1, 1, 1)}, {"an OpAlu of B and Imm", api.Ins{Op: api.OpAlu, Fn: 1, Imm: 1, Index: -1}},
		{"a store of A and Imm", api.Ins{Op: api.OpStore, Dst: -1, B: -1, Index: -1, Imm: 1, Size: 1}},
		{"a fence of nothing ahead", fence(0, 1)}, {"a fence of nothing behind", fence(1, 0)}, {"a fence of another bit", fence(4, 1)}, {"a fence of bits more", fence(3, 7)}, {"a fence below 0", fence(-1, 3)},
		{"a branch of no register, to itself", ifZero(-1, 0)}, {"a branch of register 8", unless(8, 1)},
		{"register 8", konst(8, 0)}, {"register -1", konst(-1, 0)}, {"Index 8", by(8, load(1, 0, 0, 8))}, {"Index -2", by(-2, load(1, 0, 0, 8))},
	} {
		if e := Right(x.i, 0, 8); e != api.ErrIns {
			t.Errorf("%s: Right(%+v) = %d", x.what, x.i, e)
		}
	}
}

func TestRightOfTargets(t *testing.T) {
	for _, x := range []struct {
		what      string
		at, n, to int
		e         api.Errno
	}{
		{"to itself", 2, 5, 2, api.ErrTarget}, {"to the next", 2, 5, 3, api.OK}, {"to the last", 2, 5, 4, api.OK}, {"to the end", 2, 5, 5, api.OK}, {"behind the end", 2, 5, 6, api.ErrTarget},
		{"back", 2, 5, 1, api.ErrTarget}, {"to the beginning", 2, 5, 0, api.ErrTarget}, {"ahead of the beginning", 2, 5, -1, api.ErrTarget},
		{"the last one to the end", 7, 8, 8, api.OK}, {"the last one behind it", 7, 8, 9, api.ErrTarget},
		{"at + 1 would wrap", math.MaxInt, math.MaxInt, math.MinInt, api.ErrTarget}, {"at + 1 would wrap, to the end", math.MaxInt, math.MaxInt, math.MaxInt, api.ErrTarget},
		{"the highest end", 0, math.MaxInt, math.MaxInt, api.OK}, {"no place is in between", 5, 2, 4, api.ErrTarget},
	} {
		for _, i := range []api.Ins{ifZero(0, x.to), unless(7, x.to)} {
			if e := Right(i, x.at, x.n); e != x.e {
				t.Errorf("%s: Right(%+v, %d, %d) = %d, want %d", x.what, i, x.at, x.n, e, x.e)
			}
		}
	}
}

// Of one that is no branch at and n do not matter.
func TestRightWhereverItStands(t *testing.T) {
	for _, at := range odd {
		for _, n := range odd {
			for _, i := range rights() {
				if e := Right(i, at, n); i.Op != api.OpBranch && e != api.OK {
					t.Errorf("Right(%+v, %d, %d) = %d", i, at, n, e)
				}
			}
			if e := Right(load(0, 0, 0, 3), at, n); e != api.ErrIns {
				t.Errorf("Right of a load of Size 3 at %d of %d = %d", at, n, e)
			}
		}
	}
}

// The codes of a test that Check must refuse, or not, and where.
func TestCheck(t *testing.T) {
	wrong, op, jump := bare(0), load(0, 0, 0, 1), ifZero(0, 8)
	full := append(times(4, jump), times(4, op)...)
	for _, x := range []struct {
		what       string
		codes      [][]api.Ins
		thread, at int
		e          api.Errno
	}{
		{"no codes, a nil list", nil, 0, 0, api.ErrThreads},
		{"no codes", [][]api.Ins{}, 0, 0, api.ErrThreads},
		{"four codes", [][]api.Ins{nil, nil, nil, nil}, 0, 0, api.ErrThreads},
		{"four codes, one too long and wrong", [][]api.Ins{nil, times(9, wrong), nil, nil}, 0, 0, api.ErrThreads},
		{"an empty code", [][]api.Ins{{}}, 0, 0, api.OK},
		{"three empty codes", [][]api.Ins{nil, {}, nil}, 0, 0, api.OK},
		{"each right instruction", oneByOne(), 0, 0, api.OK},
		{"three codes of MaxCode", [][]api.Ins{times(8, konst(0, 1)), times(8, isb()), times(8, fence(1, 1))}, 0, 0, api.OK},
		{"one more than MaxCode", [][]api.Ins{times(9, konst(0, 1))}, 0, 0, api.ErrCode},
		{"the last code is too long", [][]api.Ins{nil, nil, times(9, konst(0, 1))}, 2, 0, api.ErrCode},
		{"two codes are too long", [][]api.Ins{nil, times(9, konst(0, 1)), times(99, konst(0, 1))}, 1, 0, api.ErrCode},
		{"a code is wrong, one behind it too long", [][]api.Ins{{wrong}, times(9, konst(0, 1))}, 1, 0, api.ErrCode},
		{"too long and wrong", [][]api.Ins{times(9, wrong)}, 0, 0, api.ErrCode},
		{"the first one is wrong", [][]api.Ins{{wrong}}, 0, 0, api.ErrIns},
		{"the last one is wrong", [][]api.Ins{nil, nil, append(times(7, isb()), wrong)}, 2, 7, api.ErrIns},
		{"two codes are wrong", [][]api.Ins{nil, {isb(), wrong, wrong}, {wrong}}, 1, 1, api.ErrIns},
		{"a wrong one behind a wrong target", [][]api.Ins{{isb(), ifZero(0, 1), wrong}}, 0, 1, api.ErrTarget},
		{"a wrong target behind a wrong one", [][]api.Ins{{isb(), wrong, ifZero(0, 2)}}, 0, 1, api.ErrIns},
		{"a target behind its own code's end", [][]api.Ins{times(8, isb()), {ifZero(0, 2)}}, 1, 0, api.ErrTarget},
		{"a target at its own code's end", [][]api.Ins{nil, {isb(), ifZero(0, 2)}}, 0, 0, api.OK},
		{"a branch to itself", [][]api.Ins{{isb(), isb(), isb(), unless(0, 3)}}, 0, 3, api.ErrTarget},
		{"MaxOps in one code", [][]api.Ins{times(6, op)}, 0, 0, api.OK},
		{"one more", [][]api.Ins{times(7, op)}, 0, 0, api.ErrOps},
		{"MaxOps in all, an OpRmw is one", [][]api.Ins{times(2, op), times(2, store(0, 0, 0, 1)), times(2, rmw(1, 0, 0, 0, 0, 1))}, 0, 0, api.OK},
		{"one more in all", [][]api.Ins{times(2, op), times(2, store(0, 0, 0, 1)), times(3, rmw(1, 0, 0, 0, 0, 1))}, 0, 0, api.ErrOps},
		{"too many operations ahead of a wrong one", [][]api.Ins{times(7, op), {isb(), wrong}}, 1, 1, api.ErrIns},
		{"MaxBranches in one code", [][]api.Ins{times(3, ifZero(0, 3))}, 0, 0, api.OK},
		{"one more", [][]api.Ins{times(4, ifZero(0, 4))}, 0, 0, api.ErrBranches},
		{"MaxBranches in all", [][]api.Ins{{ifZero(0, 1)}, {unless(0, 1)}, {ifZero(0, 1)}}, 0, 0, api.OK},
		{"one more in all", [][]api.Ins{{ifZero(0, 1)}, {unless(0, 1)}, times(2, ifZero(0, 2))}, 0, 0, api.ErrBranches},
		{"too many branches ahead of a wrong target", [][]api.Ins{times(4, ifZero(0, 4)), nil, {ifZero(0, 0)}}, 2, 0, api.ErrTarget},
		{"too many of both", [][]api.Ins{full, times(3, op)}, 0, 0, api.ErrOps},
		{"full of both", [][]api.Ins{append(times(3, jump), times(5, op)...), {op}}, 0, 0, api.OK},
	} {
		if thread, at, e := Check(x.codes...); thread != x.thread || at != x.at || e != x.e {
			t.Errorf("%s: %d, %d, %d, want %d, %d, %d", x.what, thread, at, e, x.thread, x.at, x.e)
		}
	}
}

// oneByOne is three codes with an instruction of each Op.
func oneByOne() [][]api.Ins {
	return [][]api.Ins{
		{konst(7, -1), move(0, 7), alu(api.FnOr, 0, 1, 2), aluImm(api.FnSub, 0, 1, 5)},
		{acq(load(1, 2, 4, 4)), rel(store(1, 0, 6, 2)), weak(by(7, load(0, 1, 0, 8))), unless(0, 4)},
		{acq(rel(rmw(api.FnSwap, 0, 0, 0, 7, 1))), storeImm(3, 0, 0, 1), fence(3, 3), isb(), ifZero(3, 5)},
	}
}

// Each right instruction by itself is a right code, each that is not is none.
func TestCheckIsRightOfEach(t *testing.T) {
	for _, i := range rights() {
		for _, j := range turned(i, odd) {
			code := append([]api.Ins{isb(), j}, times(6, isb())...)
			thread, at, e := Check(nil, code)
			want := Right(j, 1, 8)
			if e != want || want != api.OK && (thread != 1 || at != 1) || want == api.OK && (thread != 0 || at != 0) {
				t.Errorf("Check of %+v: %d, %d, %d, want %d", j, thread, at, e, want)
			}
		}
	}
}

// R3: codes that are handed in, and what lies behind them, stay.
func TestCodesStay(t *testing.T) {
	room := append(rights(), api.Ins{}, bare(99))
	before := slices.Clone(room)
	codes := [][]api.Ins{room[:3], room[3:3], room[4:8], room[20:]}
	Check(codes[:3]...)
	Check(codes...)
	Check(codes[:0]...)
	Ops(room[:5]...)
	Branches(room[:5]...)
	Ops(room[:0]...)
	Branches(room...)
	if !slices.Equal(room, before) {
		t.Errorf("the instructions are %v, they were %v", room, before)
	}
	if len(codes) != 4 || len(codes[0]) != 3 || codes[1] == nil || len(codes[2]) != 4 || &codes[0][0] != &room[0] {
		t.Error("the list of codes was written to")
	}
}
