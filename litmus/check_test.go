package litmus_test

import (
	"math"
	"slices"
	"strings"
	"testing"

	"belated/api"
	"belated/litmus"
)

// checked fails if a test is not told so, by Check and by Print.
func checked(t *testing.T, test api.Test, e api.Errno) {
	t.Helper()
	if got := litmus.Check(test); got != e {
		t.Errorf("9.1: Check(%+v) = %d, want %d", test, got, e)
	}
	if text, got := litmus.Print(test); got != e || (text == "") != (e != api.OK) {
		t.Errorf("9.4: Print(%+v) = %q, %d, want %d", test, text, got, e)
	}
}

// plain is a test of one fence, which all languages have, and which is right.
func plain(arch int) api.Test {
	return api.Test{Arch: arch, Name: "a", Code: [][]api.Ins{{fence(3, 3)}}, Quant: api.Exists, Cond: []api.Cond{locIs(0, 0)}}
}

// 9.1: the architecture.
func TestCheckArch(t *testing.T) {
	for _, arch := range arches {
		checked(t, plain(arch), api.OK)
	}
	for _, arch := range []int{0, 4, -1, 5, math.MaxInt, math.MinInt, 1<<32 + 1} {
		checked(t, plain(arch), api.ErrArch)
	}
}

// 9.1: the name.
func TestCheckName(t *testing.T) {
	for _, name := range []string{"a", "Z", "_", "_9", "a.b_C.", "exists", "X86", "P0", "abcdefghijklmnop", "a..............."} {
		test := plain(api.ARM)
		test.Name = name
		checked(t, test, api.OK)
	}
	for _, name := range []string{"", " ", "7", "7a", ".a", "a b", " a", "a ", "a\n", "\ta", "a-b", "a:", "(a)", "a(**)", "(* a *)", "(* a", "é", "aé", "a\x00", "a\xff", "@", "+", "abcdefghijklmnopq", strings.Repeat("a", api.MaxText), strings.Repeat("a", api.MaxText+1), strings.Repeat(" ", 20) + "a"} {
		test := plain(api.ARM)
		test.Name = name
		checked(t, test, api.ErrName)
	}
}

// 9.1: what uir.Check says of the codes.
func TestCheckCodes(t *testing.T) {
	full, wrong := fence(3, 3), fence(4, 3)
	fences := func(n int) []api.Ins { return slices.Repeat(code(full), n) }
	loads := func(n int) []api.Ins { return slices.Repeat(code(load(0, 0)), n) }
	jumps := func(n int) []api.Ins { return slices.Repeat(code(branch(0, true, n)), n) }
	for _, x := range []struct {
		codes [][]api.Ins
		e     api.Errno
	}{
		{nil, api.ErrThreads}, {[][]api.Ins{}, api.ErrThreads}, {[][]api.Ins{nil}, api.OK}, {[][]api.Ins{{}, nil}, api.OK}, {[][]api.Ins{nil, nil, nil}, api.OK}, {[][]api.Ins{nil, nil, nil, nil}, api.ErrThreads}, {make([][]api.Ins, 100), api.ErrThreads},
		{[][]api.Ins{fences(8)}, api.OK}, {[][]api.Ins{fences(9)}, api.ErrCode}, {[][]api.Ins{fences(8), fences(8), fences(8)}, api.OK}, {[][]api.Ins{{wrong}, nil, fences(9)}, api.ErrCode},
		{[][]api.Ins{{wrong}}, api.ErrIns}, {[][]api.Ins{nil, {full, wrong}}, api.ErrIns}, {[][]api.Ins{{{}}}, api.ErrIns}, {[][]api.Ins{{branch(0, true, 0)}}, api.ErrTarget}, {[][]api.Ins{{branch(0, true, 1)}}, api.OK}, {[][]api.Ins{{branch(0, true, 2)}}, api.ErrTarget}, {[][]api.Ins{{branch(0, false, math.MinInt)}}, api.ErrTarget}, {[][]api.Ins{{branch(0, false, math.MaxInt)}}, api.ErrTarget}, {[][]api.Ins{append(fences(7), branch(0, true, 8))}, api.OK}, {[][]api.Ins{append(fences(7), branch(0, true, 9))}, api.ErrTarget}, {[][]api.Ins{{full, branch(0, false, 1)}, {wrong}}, api.ErrTarget},
		{[][]api.Ins{loads(6)}, api.OK}, {[][]api.Ins{loads(7)}, api.ErrOps}, {[][]api.Ins{loads(3), loads(3), loads(1)}, api.ErrOps}, {[][]api.Ins{loads(7), {branch(0, true, 0)}}, api.ErrTarget}, {[][]api.Ins{jumps(3)}, api.OK}, {[][]api.Ins{jumps(4)}, api.ErrBranches}, {[][]api.Ins{jumps(2), jumps(2)}, api.ErrBranches}, {[][]api.Ins{jumps(4), loads(7)}, api.ErrOps},
	} {
		for _, arch := range arches {
			test := plain(arch)
			test.Code = x.codes
			checked(t, test, x.e)
		}
	}
}

// 9.1: instructions that a language has not.
func TestCheckLanguage(t *testing.T) {
	acquire, weak, release, swap := load(0, 0), load(0, 0), store(1, 0), load(0, 0)
	acquire.Acq, weak.Weak, release.Rel = true, true, true
	swap.Op, swap.A, swap.Fn = api.OpRmw, 0, api.FnSwap
	both := swap
	both.Acq, both.Rel = true, true
	alu := api.Ins{Op: api.OpAlu, Fn: api.FnAdd, Dst: 1, A: 2, B: -1, Index: -1, Imm: 5}
	isb := api.Ins{Op: api.OpIsb, Dst: -1, A: -1, B: -1, Index: -1}
	for _, x := range []struct {
		i     api.Ins
		right []int
	}{
		{fence(3, 3), arches}, {load(0, 0), arches}, {store(1, 0), arches}, {constant(0, 1), arches}, {both, arches}, {branch(0, true, 1), arches},
		{fence(3, 1), []int{api.RISCV}}, {fence(2, 2), []int{api.RISCV, api.ARM}}, {acquire, []int{api.ARM}}, {weak, []int{api.ARM}}, {release, []int{api.ARM}}, {swap, []int{api.RISCV, api.ARM}}, {alu, []int{api.RISCV, api.ARM}}, {isb, []int{api.ARM}}, {storeImm(0, 0), []int{api.X86}},
	} {
		for _, arch := range arches {
			want := api.ErrArch
			if slices.Contains(x.right, arch) {
				want = api.OK
			}
			for _, codes := range [][][]api.Ins{{{x.i}}, {nil, nil, {x.i}}, {{fence(3, 3)}, {x.i}}} {
				test := plain(arch)
				test.Code = codes
				checked(t, test, want)
			}
		}
	}
}

// 9.1: the quantifier, the condition, registers of threads that it has not.
func TestCheckRest(t *testing.T) {
	for _, quant := range quants {
		test := plain(api.RISCV)
		test.Quant = quant
		checked(t, test, api.OK)
	}
	for _, quant := range []int{0, 4, -1, math.MaxInt, math.MinInt} {
		test := plain(api.RISCV)
		test.Quant = quant
		checked(t, test, api.ErrForm)
	}
	a, not, and := regIs(2, 7, math.MinInt), api.Cond{Kind: api.CondNot}, api.Cond{Kind: api.CondAnd}
	for _, cs := range [][]api.Cond{{a}, {a, not}, {a, a, and}, append([]api.Cond{a}, slices.Repeat([]api.Cond{not}, 31)...)} {
		test := plain(api.RISCV)
		test.Cond = cs
		checked(t, test, api.OK)
	}
	for _, cs := range [][]api.Cond{nil, {}, {not}, {a, a}, {a, and}, {{}}, {regIs(3, 0, 0)}, {regIs(0, 8, 0)}, {locIs(3, 0)}, {{Kind: api.CondLoc, Reg: 1}}, append([]api.Cond{a}, slices.Repeat([]api.Cond{not}, 32)...)} {
		test := plain(api.RISCV)
		test.Cond = cs
		checked(t, test, api.ErrForm)
	}
	for threads := 1; threads <= 3; threads++ {
		for thread := range 3 {
			for r := range 8 {
				for _, value := range []int{1, -1, math.MaxInt, math.MinInt} {
					test := plain(api.X86)
					test.Code = make([][]api.Ins, threads)
					test.Regs[thread][r] = value
					e := api.OK
					if thread >= threads {
						e = api.ErrArg
					}
					checked(t, test, e)
				}
			}
		}
	}
}

// 9.1: of several rules that are broken, the first one.
func TestCheckOrder(t *testing.T) {
	type turn struct {
		do func(test *api.Test)
		e  api.Errno
	}
	turns := []turn{
		{func(test *api.Test) { test.Arch = 4 }, api.ErrArch},
		{func(test *api.Test) { test.Name = "" }, api.ErrName},
		{func(test *api.Test) { test.Code[0] = append(test.Code[0], branch(0, true, 0)) }, api.ErrTarget},
		{func(test *api.Test) { test.Code[0] = append(test.Code[0], fence(1, 1)) }, api.ErrArch},
		{func(test *api.Test) { test.Quant = 0 }, api.ErrForm},
		{func(test *api.Test) { test.Cond = nil }, api.ErrForm},
		{func(test *api.Test) { test.Regs[1][0] = 1 }, api.ErrArg},
	}
	for set := range 1 << len(turns) {
		test, want := plain(api.ARM), api.OK
		for n, x := range turns {
			if set>>n&1 == 1 {
				x.do(&test)
				if want == api.OK {
					want = x.e
				}
			}
		}
		checked(t, test, want)
	}
}

// spoil turns something of a test.
func (d *drawn) spoil(t *api.Test) {
	numbers := []int{-1, 0, 1, 2, 3, 4, 5, 7, 8, 9, math.MaxInt, math.MinInt}
	number := pick(d, numbers)
	thread := d.below(3)
	switch d.below(9) {
	case 0:
		t.Arch = number
	case 1:
		t.Name = pick(d, []string{"", "a b", "7", "abcdefghijklmnop", "abcdefghijklmnopq"})
	case 2:
		t.Code = append(t.Code, nil)
	case 3:
		t.Code = t.Code[:len(t.Code)-1]
	case 4:
		t.Quant = number
	case 5:
		t.Cond[d.below(len(t.Cond))].Kind = number
	case 6:
		t.Regs[thread][d.below(8)] = number
	case 7:
		t.Arch = pick(d, arches)
	default:
		if thread < len(t.Code) {
			t.Code[thread] = append(t.Code[thread], api.Ins{Op: number, Dst: 1, A: 1, B: -1, Index: -1, Size: 8, Fn: 1, To: pick(d, numbers)})
		}
	}
}

// 9.1: drawn tests, right ones, and with a few things turned.
func TestCheckDrawn(t *testing.T) {
	d := drawn(91)
	for range 3000 {
		test := d.test()
		checked(t, test, api.OK)
		for range 3 {
			if len(test.Code) > 0 {
				d.spoil(&test)
			}
			checked(t, test, modelCheck(test))
		}
	}
}
