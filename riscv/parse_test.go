package riscv_test

import (
	"math"
	"slices"
	"strings"
	"testing"

	"belated/api"
	"belated/riscv"
)

// with is an instruction with its fields set.
func with(op int, set func(i *api.Ins)) api.Ins {
	i := bare(op)
	set(&i)
	return i
}

func konst(dst, imm int) api.Ins {
	return with(api.OpConst, func(i *api.Ins) { i.Dst, i.Imm = dst, imm })
}

func move(dst, a int) api.Ins {
	return with(api.OpMove, func(i *api.Ins) { i.Dst, i.A = dst, a })
}

func alu(fn, dst, a, b, imm int) api.Ins {
	return with(api.OpAlu, func(i *api.Ins) { i.Fn, i.Dst, i.A, i.B, i.Imm = fn, dst, a, b, imm })
}

func at(loc, off, index, size int, i api.Ins) api.Ins {
	i.Loc, i.Off, i.Index, i.Size = loc, off, index, size
	return i
}

func load(dst int) api.Ins {
	return with(api.OpLoad, func(i *api.Ins) { i.Dst = dst })
}

func store(a, imm int) api.Ins {
	return with(api.OpStore, func(i *api.Ins) { i.A, i.Imm = a, imm })
}

func rmw(fn, dst, a int, acq, rel bool) api.Ins {
	return with(api.OpRmw, func(i *api.Ins) { i.Fn, i.Dst, i.A, i.Acq, i.Rel = fn, dst, a, acq, rel })
}

func fence(pred, succ int) api.Ins {
	return with(api.OpFence, func(i *api.Ins) { i.Pred, i.Succ = pred, succ })
}

func branch(a int, zero bool) api.Ins {
	return with(api.OpBranch, func(i *api.Ins) { i.A, i.Zero = a, zero })
}

// sample is a text as Print writes it, and what it means.
type sample struct {
	text  string
	i     api.Ins
	label string
}

// samples is each row of 6.1's table, in each of its forms and sizes.
func samples() []sample {
	const swap, add = api.FnSwap, api.FnAdd
	return []sample{
		{"li a0,0", konst(0, 0), ""}, {"li a7,5", konst(7, 5), ""}, {"li a5,-1", konst(5, -1), ""},
		{"li a2,9223372036854775807", konst(2, math.MaxInt), ""}, {"li a2,-9223372036854775808", konst(2, math.MinInt), ""},
		{"mv a0,a1", move(0, 1), ""}, {"mv a7,a6", move(7, 6), ""}, {"mv a4,a4", move(4, 4), ""},
		{"add a0,a1,a2", alu(api.FnAdd, 0, 1, 2, 0), ""}, {"sub a3,a4,a5", alu(api.FnSub, 3, 4, 5, 0), ""}, {"xor a6,a7,a0", alu(api.FnXor, 6, 7, 0, 0), ""}, {"and a7,a0,a0", alu(api.FnAnd, 7, 0, 0, 0), ""}, {"or a1,a1,a1", alu(api.FnOr, 1, 1, 1, 0), ""},
		{"addi a0,a1,7", alu(api.FnAdd, 0, 1, -1, 7), ""}, {"subi a3,a4,-7", alu(api.FnSub, 3, 4, -1, -7), ""}, {"xori a6,a6,0", alu(api.FnXor, 6, 6, -1, 0), ""}, {"andi a7,a0,255", alu(api.FnAnd, 7, 0, -1, 255), ""}, {"ori a0,a0,-9223372036854775808", alu(api.FnOr, 0, 0, -1, math.MinInt), ""},

		{"lb a0,[x]", at(0, 0, -1, 1, load(0)), ""}, {"lh a1,[y]", at(1, 0, -1, 2, load(1)), ""}, {"lw a2,[z]", at(2, 0, -1, 4, load(2)), ""}, {"ld a3,[x]", at(0, 0, -1, 8, load(3)), ""},
		{"lb a0,[x+7]", at(0, 7, -1, 1, load(0)), ""}, {"lh a1,[y+2]", at(1, 2, -1, 2, load(1)), ""}, {"lw a2,[z+4]", at(2, 4, -1, 4, load(2)), ""},
		{"lb a0,[x+a7]", at(0, 0, 7, 1, load(0)), ""}, {"lh a1,[y+a1]", at(1, 0, 1, 2, load(1)), ""}, {"lw a2,[z+a3]", at(2, 0, 3, 4, load(2)), ""}, {"ld a3,[y+a0]", at(1, 0, 0, 8, load(3)), ""},
		{"lb a7,[z+1+a0]", at(2, 1, 0, 1, load(7)), ""}, {"lh a6,[x+6+a1]", at(0, 6, 1, 2, load(6)), ""}, {"lw a5,[y+4+a5]", at(1, 4, 5, 4, load(5)), ""},

		{"sb a0,[x]", at(0, 0, -1, 1, store(0, 0)), ""}, {"sh a1,[y]", at(1, 0, -1, 2, store(1, 0)), ""}, {"sw a2,[z]", at(2, 0, -1, 4, store(2, 0)), ""}, {"sd a3,[x]", at(0, 0, -1, 8, store(3, 0)), ""},
		{"sb a0,[x+3]", at(0, 3, -1, 1, store(0, 0)), ""}, {"sh a1,[y+4]", at(1, 4, -1, 2, store(1, 0)), ""}, {"sw a2,[z+4]", at(2, 4, -1, 4, store(2, 0)), ""},
		{"sb a0,[x+a7]", at(0, 0, 7, 1, store(0, 0)), ""}, {"sh a1,[y+a1]", at(1, 0, 1, 2, store(1, 0)), ""}, {"sw a2,[z+a3]", at(2, 0, 3, 4, store(2, 0)), ""}, {"sd a3,[z+a0]", at(2, 0, 0, 8, store(3, 0)), ""},
		{"sb a7,[z+5+a0]", at(2, 5, 0, 1, store(7, 0)), ""}, {"sh a6,[x+2+a1]", at(0, 2, 1, 2, store(6, 0)), ""}, {"sw a5,[y+4+a5]", at(1, 4, 5, 4, store(5, 0)), ""},

		{"amoswap.b a0,a1,[x+7]", at(0, 7, -1, 1, rmw(swap, 0, 1, false, false)), ""}, {"amoswap.b.aq a2,a3,[y]", at(1, 0, -1, 1, rmw(swap, 2, 3, true, false)), ""}, {"amoswap.b.rl a4,a5,[z+a6]", at(2, 0, 6, 1, rmw(swap, 4, 5, false, true)), ""}, {"amoswap.b.aq.rl a7,a7,[x+1+a7]", at(0, 1, 7, 1, rmw(swap, 7, 7, true, true)), ""},
		{"amoswap.h a0,a1,[x+6]", at(0, 6, -1, 2, rmw(swap, 0, 1, false, false)), ""}, {"amoswap.h.aq a2,a3,[y]", at(1, 0, -1, 2, rmw(swap, 2, 3, true, false)), ""}, {"amoswap.h.rl a4,a5,[z+a6]", at(2, 0, 6, 2, rmw(swap, 4, 5, false, true)), ""}, {"amoswap.h.aq.rl a7,a7,[x+2+a7]", at(0, 2, 7, 2, rmw(swap, 7, 7, true, true)), ""},
		{"amoswap.w a0,a1,[x+4]", at(0, 4, -1, 4, rmw(swap, 0, 1, false, false)), ""}, {"amoswap.w.aq a2,a3,[y]", at(1, 0, -1, 4, rmw(swap, 2, 3, true, false)), ""}, {"amoswap.w.rl a4,a5,[z+a6]", at(2, 0, 6, 4, rmw(swap, 4, 5, false, true)), ""}, {"amoswap.w.aq.rl a7,a7,[x+4+a7]", at(0, 4, 7, 4, rmw(swap, 7, 7, true, true)), ""},
		{"amoswap.d a0,a1,[x]", at(0, 0, -1, 8, rmw(swap, 0, 1, false, false)), ""}, {"amoswap.d.aq a2,a3,[y]", at(1, 0, -1, 8, rmw(swap, 2, 3, true, false)), ""}, {"amoswap.d.rl a4,a5,[z+a6]", at(2, 0, 6, 8, rmw(swap, 4, 5, false, true)), ""}, {"amoswap.d.aq.rl a7,a7,[x+a7]", at(0, 0, 7, 8, rmw(swap, 7, 7, true, true)), ""},

		{"amoadd.b a1,a0,[x+4]", at(0, 4, -1, 1, rmw(add, 1, 0, false, false)), ""}, {"amoadd.b.aq a3,a2,[y]", at(1, 0, -1, 1, rmw(add, 3, 2, true, false)), ""}, {"amoadd.b.rl a5,a4,[z+a6]", at(2, 0, 6, 1, rmw(add, 5, 4, false, true)), ""}, {"amoadd.b.aq.rl a0,a0,[z+3+a0]", at(2, 3, 0, 1, rmw(add, 0, 0, true, true)), ""},
		{"amoadd.h a1,a0,[x+4]", at(0, 4, -1, 2, rmw(add, 1, 0, false, false)), ""}, {"amoadd.h.aq a3,a2,[y]", at(1, 0, -1, 2, rmw(add, 3, 2, true, false)), ""}, {"amoadd.h.rl a5,a4,[z+a6]", at(2, 0, 6, 2, rmw(add, 5, 4, false, true)), ""}, {"amoadd.h.aq.rl a0,a0,[z+6+a0]", at(2, 6, 0, 2, rmw(add, 0, 0, true, true)), ""},
		{"amoadd.w a1,a0,[x+4]", at(0, 4, -1, 4, rmw(add, 1, 0, false, false)), ""}, {"amoadd.w.aq a3,a2,[y]", at(1, 0, -1, 4, rmw(add, 3, 2, true, false)), ""}, {"amoadd.w.rl a5,a4,[z+a6]", at(2, 0, 6, 4, rmw(add, 5, 4, false, true)), ""}, {"amoadd.w.aq.rl a0,a0,[z+4+a0]", at(2, 4, 0, 4, rmw(add, 0, 0, true, true)), ""},
		{"amoadd.d a1,a0,[x]", at(0, 0, -1, 8, rmw(add, 1, 0, false, false)), ""}, {"amoadd.d.aq a3,a2,[y]", at(1, 0, -1, 8, rmw(add, 3, 2, true, false)), ""}, {"amoadd.d.rl a5,a4,[z+a6]", at(2, 0, 6, 8, rmw(add, 5, 4, false, true)), ""}, {"amoadd.d.aq.rl a0,a0,[z+a0]", at(2, 0, 0, 8, rmw(add, 0, 0, true, true)), ""},

		{"fence r,r", fence(1, 1), ""}, {"fence r,w", fence(1, 2), ""}, {"fence r,rw", fence(1, 3), ""},
		{"fence w,r", fence(2, 1), ""}, {"fence w,w", fence(2, 2), ""}, {"fence w,rw", fence(2, 3), ""},
		{"fence rw,r", fence(3, 1), ""}, {"fence rw,w", fence(3, 2), ""}, {"fence rw,rw", fence(3, 3), ""},

		{"beqz a2,L2", branch(2, true), "L2"}, {"beqz a7,a0", branch(7, true), "a0"}, {"beqz a0,x", branch(0, true), "x"},
		{"bnez a0,fence", branch(0, false), "fence"}, {"bnez a3,_.9", branch(3, false), "_.9"}, {"bnez a6,rw", branch(6, false), "rw"},
	}
}

// 6.1, 5.3: what each text means, and how it is printed.
func TestSamples(t *testing.T) {
	for _, x := range samples() {
		if got, want := parse(words(t, x.text)...), (told{i: x.i, label: x.label}); got != want {
			t.Errorf("Parse of %q: %+v, want %+v", x.text, got, want)
		}
		if text, e := riscv.Print(x.i, x.label); text != x.text || e != api.OK {
			t.Errorf("Print of %q: %q, %d", x.text, text, e)
		}
	}
}

// 5.1, 5.2: what may be written otherwise than it is printed.
func TestOtherWritings(t *testing.T) {
	for text, want := range map[string]api.Ins{
		" li\ta0 , 5\n":                 konst(0, 5),
		"li a0,- (* below *) 5":         konst(0, -5),
		"li a0,-0":                      konst(0, 0),
		"li a0,007":                     konst(0, 7),
		"li a0,0xFF":                    konst(0, 255),
		"li a0,-0xff":                   konst(0, -255),
		"li a0,9223372036854775808":     konst(0, math.MinInt),
		"li a0,0x8000000000000000":      konst(0, math.MinInt),
		"li a0,-0x8000000000000000":     konst(0, math.MinInt),
		"subi a0,a1,-\n0x10":            alu(api.FnSub, 0, 1, -1, -16),
		"(* an access *)sd a1 , [x+0]":  at(0, 0, -1, 8, store(1, 0)),
		"lb a0,[y+00+a0]":               at(1, 0, 0, 1, load(0)),
		"lh a0,[y\n+\n0x6\n]":           at(1, 6, -1, 2, load(0)),
		"lw a0,[z+004]":                 at(2, 4, -1, 4, load(0)),
		"amoadd.b.aq a7,a6,[ x + 3+a7]": at(0, 3, 7, 1, rmw(api.FnAdd, 7, 6, true, false)),
		"fence\tr ,(* *) rw":            fence(1, 3),
	} {
		if got := parse(words(t, text)...); got != (told{i: want}) {
			t.Errorf("Parse of %q: %+v, want %+v", text, got, want)
		}
	}
	for text, want := range map[string]told{
		" beqz  a0 (* to *) , L2": {i: branch(0, true), label: "L2"},
		"bnez a7,\n\tbnez (* *) ": {i: branch(7, false), label: "bnez"},
	} {
		if got := parse(words(t, text)...); got != want {
			t.Errorf("Parse of %q: %+v, want %+v", text, got, want)
		}
	}
}

// 5.2: what is refused, by what, and where; it tells nothing else.
func TestRefusals(t *testing.T) {
	for _, x := range []struct {
		text string
		e    api.Errno
		at   int
	}{
		// No words.
		{"", api.ErrEnd, 0}, {" \n\t", api.ErrEnd, 0}, {"(* fence *)", api.ErrEnd, 0},
		// The instruction's name.
		{"move a0,a1", api.ErrWord, 0}, {"  lS a0,[x]", api.ErrWord, 2}, {"l a0,[x]", api.ErrWord, 0}, {"lq a0,[x]", api.ErrWord, 0}, {"lbu a0,[x]", api.ErrWord, 0}, {"ldd a0,[x]", api.ErrWord, 0}, {"s a0,[x]", api.ErrWord, 0}, {"sq a0,[x]", api.ErrWord, 0}, {"LD a0,[x]", api.ErrWord, 0}, {"ld. a0,[x]", api.ErrWord, 0}, {"ld.aq a0,[x]", api.ErrWord, 0}, {"sd.rl a0,[x]", api.ErrWord, 0},
		{"LI a0,5", api.ErrWord, 0}, {"Mv a0,a1", api.ErrWord, 0}, {"addw a0,a1,a2", api.ErrWord, 0}, {"addI a0,a1,5", api.ErrWord, 0}, {"i a0,a1,5", api.ErrWord, 0}, {"addii a0,a1,5", api.ErrWord, 0}, {"lii a0,5", api.ErrWord, 0}, {"mvi a0,5", api.ErrWord, 0}, {"swap a0,a1,[x]", api.ErrWord, 0},
		{"amoadd a0,a1,[x]", api.ErrWord, 0}, {"amoswap. a0,a1,[x]", api.ErrWord, 0}, {"amoaddd a0,a1,[x]", api.ErrWord, 0}, {"amoadd.q a0,a1,[x]", api.ErrWord, 0}, {"amoadd.D a0,a1,[x]", api.ErrWord, 0}, {"amoxor.d a0,a1,[x]", api.ErrWord, 0}, {"amoadd.aq a0,a1,[x]", api.ErrWord, 0}, {"amoadd.aq.d a0,a1,[x]", api.ErrWord, 0}, {"amoadd.d. a0,a1,[x]", api.ErrWord, 0},
		{"amoadd.w.rl.aq a0,a1,[x]", api.ErrWord, 0}, {"amoswap.w.rl.aq a0,a1,[x]", api.ErrWord, 0}, {"amoadd.w.aq.aq a0,a1,[x]", api.ErrWord, 0}, {"amoswap.w.aq.aq a0,a1,[x]", api.ErrWord, 0}, {"amoadd.w.rl.rl a0,a1,[x]", api.ErrWord, 0}, {"amoswap.w.aq.rl.aq a0,a1,[x]", api.ErrWord, 0}, {"amoswap.w.aqrl a0,a1,[x]", api.ErrWord, 0}, {"amoswap.w.AQ a0,a1,[x]", api.ErrWord, 0}, {"amoswap.wd a0,a1,[x]", api.ErrWord, 0},
		{"fence.i", api.ErrWord, 0}, {"fence.tso", api.ErrWord, 0}, {"FENCE r,w", api.ErrWord, 0}, {"isb", api.ErrWord, 0}, {"j L", api.ErrWord, 0}, {"beq a0,a1,L", api.ErrWord, 0}, {"beqz. a0,L", api.ErrWord, 0}, {"a0", api.ErrWord, 0}, {"x", api.ErrWord, 0}, {"MFENCE", api.ErrWord, 0}, {"_", api.ErrWord, 0},
		{"5", api.ErrForm, 0}, {" [", api.ErrForm, 1}, {"- 5", api.ErrForm, 0}, {"$", api.ErrForm, 0}, {",", api.ErrForm, 0},
		// Cut off.
		{"li", api.ErrEnd, 2}, {"li ", api.ErrEnd, 2}, {"li a0", api.ErrEnd, 5}, {"li a0,", api.ErrEnd, 6}, {"li a0,-", api.ErrEnd, 7}, {"li a0,- (* 5 *)", api.ErrEnd, 7},
		{"mv", api.ErrEnd, 2}, {"mv a0", api.ErrEnd, 5}, {"mv a0, ", api.ErrEnd, 6}, {"add", api.ErrEnd, 3}, {"add a0", api.ErrEnd, 6}, {"add a0,", api.ErrEnd, 7}, {"add a0,a1", api.ErrEnd, 9}, {"add a0,a1,", api.ErrEnd, 10}, {"addi a0,a1", api.ErrEnd, 10}, {"addi a0,a1,", api.ErrEnd, 11}, {"addi a0,a1,-", api.ErrEnd, 12},
		{"ld", api.ErrEnd, 2}, {"ld a0", api.ErrEnd, 5}, {"ld a0,", api.ErrEnd, 6}, {"ld a0,[", api.ErrEnd, 7}, {"ld a0,[x", api.ErrEnd, 8}, {"ld a0,[x+", api.ErrEnd, 9}, {"ld a0,[x+0", api.ErrEnd, 10}, {"ld a0,[x+0+", api.ErrEnd, 11}, {"ld a0,[x+0+a1", api.ErrEnd, 13}, {"ld a0,[x+a1", api.ErrEnd, 11},
		{"sb", api.ErrEnd, 2}, {"sb a0", api.ErrEnd, 5}, {"sb a0 , ", api.ErrEnd, 7}, {"sb a0,[x", api.ErrEnd, 8}, {"amoswap.w", api.ErrEnd, 9}, {"amoswap.w a0", api.ErrEnd, 12}, {"amoswap.w a0,", api.ErrEnd, 13}, {"amoswap.w a0,a1", api.ErrEnd, 15}, {"amoswap.w a0,a1,", api.ErrEnd, 16}, {"amoadd.d.aq.rl a0,a1,[z", api.ErrEnd, 23},
		{"fence", api.ErrEnd, 5}, {"fence r", api.ErrEnd, 7}, {"fence rw", api.ErrEnd, 8}, {"fence rw,", api.ErrEnd, 9}, {"beqz", api.ErrEnd, 4}, {"beqz a0", api.ErrEnd, 7}, {"beqz a0,", api.ErrEnd, 8}, {"bnez a0,\n", api.ErrEnd, 8},
		// A register.
		{"li a8,5", api.ErrWord, 3}, {"li A0,5", api.ErrWord, 3}, {"li a,5", api.ErrWord, 3}, {"li a00,5", api.ErrWord, 3}, {"li x,5", api.ErrWord, 3}, {"li rw,5", api.ErrWord, 3}, {"li RAX,5", api.ErrWord, 3}, {"li X0,5", api.ErrWord, 3}, {"li 5,a0", api.ErrForm, 3}, {"li -5,a0", api.ErrForm, 3}, {"li [x],5", api.ErrForm, 3},
		{"mv a8,a0", api.ErrWord, 3}, {"mv a0,a8", api.ErrWord, 6}, {"mv a0,x", api.ErrWord, 6}, {"mv a0,5", api.ErrForm, 6}, {"mv a0,-5", api.ErrForm, 6}, {"mv a0,[x]", api.ErrForm, 6},
		{"add t0,a1,a2", api.ErrWord, 4}, {"add a0,t1,a2", api.ErrWord, 7}, {"add a0,a1,t2", api.ErrWord, 10}, {"add a0,a1,5", api.ErrForm, 10}, {"add a0,a1,-5", api.ErrForm, 10}, {"add a0,5,a1", api.ErrForm, 7}, {"addi t0,a1,5", api.ErrWord, 5}, {"addi a0,t1,5", api.ErrWord, 8}, {"addi a0,5,5", api.ErrForm, 8}, {"addi 5,a0,5", api.ErrForm, 5},
		{"ld X0,[x]", api.ErrWord, 3}, {"ld x,[x]", api.ErrWord, 3}, {"ld 0,[x]", api.ErrForm, 3}, {"sd A1,[x]", api.ErrWord, 3}, {"sd 5,[x]", api.ErrForm, 3}, {"sd -5,[x]", api.ErrForm, 3}, {"sd [x],a0", api.ErrForm, 3}, {"ld [x],a0", api.ErrForm, 3},
		{"amoadd.d a8,a1,[x]", api.ErrWord, 9}, {"amoadd.d a0,a8,[x]", api.ErrWord, 12}, {"amoadd.d 0,a1,[x]", api.ErrForm, 9}, {"amoadd.d a0,1,[x]", api.ErrForm, 12}, {"amoadd.d a0,[x],a1", api.ErrForm, 12}, {"amoadd.d a0,[x]", api.ErrForm, 12}, {"amoswap.d [x],a0,a1", api.ErrForm, 10},
		{"beqz L2", api.ErrWord, 5}, {"beqz 0,L", api.ErrForm, 5}, {"bnez [x],L", api.ErrForm, 5}, {"bnez x,L", api.ErrWord, 5},
		// A comma.
		{"mv a0 a1", api.ErrForm, 6}, {"mv a0 a8", api.ErrForm, 6}, {"mv a0;a1", api.ErrForm, 5}, {"mv,a0,a1", api.ErrForm, 2}, {"mv a0,,a1", api.ErrForm, 6}, {"li a0 5", api.ErrForm, 6}, {"li a0-5", api.ErrForm, 5}, {"add a0,a1 a2", api.ErrForm, 10}, {"addi a0,a1 5", api.ErrForm, 11}, {"ld a0[x]", api.ErrForm, 5}, {"sd a0+[x]", api.ErrForm, 5}, {"amoadd.d a0,a1[x]", api.ErrForm, 14}, {"beqz a0 L", api.ErrForm, 8}, {"fence rw w", api.ErrForm, 9}, {"fence r;w", api.ErrForm, 7}, {"fence r r,w", api.ErrForm, 8},
		// A number.
		{"li a0,a1", api.ErrForm, 6}, {"li a0,x", api.ErrForm, 6}, {"li a0,foo", api.ErrForm, 6}, {"li a0,$5", api.ErrForm, 6}, {"li a0,#5", api.ErrForm, 6}, {"li a0,+5", api.ErrForm, 6}, {"li a0,- a1", api.ErrForm, 8}, {"li a0,-foo", api.ErrForm, 7}, {"li a0,--5", api.ErrForm, 7}, {"li a0,-$5", api.ErrForm, 7}, {"li a0,-,", api.ErrForm, 7}, {"li a0,[x]", api.ErrForm, 6},
		{"addi a0,a1,a2", api.ErrForm, 11}, {"subi a0,a1,$5", api.ErrForm, 11}, {"xori a0,a1,- x", api.ErrForm, 13}, {"ori a0,a1,[x]", api.ErrForm, 10},
		// Memory.
		{"ld a0,a1", api.ErrForm, 6}, {"ld a0,x", api.ErrForm, 6}, {"ld a0,5", api.ErrForm, 6}, {"ld a0,-5", api.ErrForm, 6}, {"ld a0,0(a1)", api.ErrForm, 6}, {"ld a0,(x)", api.ErrForm, 6}, {"sd a0,a1", api.ErrForm, 6}, {"sd a0,5", api.ErrForm, 6}, {"amoadd.w a0,a1,a2", api.ErrForm, 15}, {"amoadd.w a0,a1,x", api.ErrForm, 15},
		{"ld a0,[w]", api.ErrWord, 7}, {"ld a0,[X]", api.ErrWord, 7}, {"ld a0,[xx]", api.ErrWord, 7}, {"ld a0,[a1]", api.ErrWord, 7}, {"ld a0,[rw]", api.ErrWord, 7}, {"ld a0,[3]", api.ErrForm, 7}, {"ld a0,[]", api.ErrForm, 7}, {"ld a0,[[x]]", api.ErrForm, 7}, {"ld a0,[+4]", api.ErrForm, 7}, {"ld a0,[4+x]", api.ErrForm, 7}, {"ld a0,[a1+x]", api.ErrWord, 7},
		{"sd a0,[x,a1", api.ErrForm, 8}, {"sd a0,[x a1]", api.ErrForm, 9}, {"sd a0,[x 4]", api.ErrForm, 9}, {"sd a0,[x-4]", api.ErrForm, 8}, {"sd a0,[x+]", api.ErrForm, 9}, {"sd a0,[x+-4]", api.ErrForm, 9}, {"sd a0,[x++4]", api.ErrForm, 9}, {"sd a0,[x+$4]", api.ErrForm, 9}, {"sd a0,[x)", api.ErrForm, 8},
		{"sb a0,[x+a8]", api.ErrWord, 9}, {"sb a0,[x+y]", api.ErrWord, 9}, {"sb a0,[x+A1]", api.ErrWord, 9}, {"sb a0,[x+4+a8]", api.ErrWord, 11}, {"sb a0,[x+4+4]", api.ErrForm, 11}, {"sb a0,[x+4+]", api.ErrForm, 11}, {"sb a0,[x+a1+4]", api.ErrForm, 11}, {"sb a0,[x+a1+a1]", api.ErrForm, 11}, {"sb a0,[x+4+a1+a1]", api.ErrForm, 13}, {"sb a0,[x+4 a1]", api.ErrForm, 11}, {"amoadd.b a0,a1,[x+a2+4]", api.ErrForm, 20},
		// A fence's P.
		{"fence rw,x", api.ErrWord, 9}, {"fence x,rw", api.ErrWord, 6}, {"fence wr,w", api.ErrWord, 6}, {"fence w,wr", api.ErrWord, 8}, {"fence R,w", api.ErrWord, 6}, {"fence r,W", api.ErrWord, 8}, {"fence RW,RW", api.ErrWord, 6}, {"fence iorw,rw", api.ErrWord, 6}, {"fence a0,w", api.ErrWord, 6}, {"fence r,a1", api.ErrWord, 8}, {"fence rr,w", api.ErrWord, 6}, {"fence r.w,w", api.ErrWord, 6},
		{"fence ,w", api.ErrForm, 6}, {"fence 1,2", api.ErrForm, 6}, {"fence 3", api.ErrForm, 6}, {"fence r,2", api.ErrForm, 8}, {"fence r,,w", api.ErrForm, 8}, {"fence r,-", api.ErrForm, 8}, {"fence [x],w", api.ErrForm, 6},
		// A label.
		{"beqz a0,5", api.ErrForm, 8}, {"beqz a0,-", api.ErrForm, 8}, {"bnez a0,[x]", api.ErrForm, 8}, {"bnez a0,:", api.ErrForm, 8},
		// A word too many.
		{"fence r,w,", api.ErrMore, 9}, {"fence rw,rw fence", api.ErrMore, 12}, {"fence r,w;", api.ErrMore, 9}, {"fence r,r w", api.ErrMore, 10}, {"li a0,5 5", api.ErrMore, 8}, {"li a0,5-5", api.ErrMore, 7}, {"mv a0,a1,a2", api.ErrMore, 8}, {"mv a0,a1 a8", api.ErrMore, 9}, {"add a0,a1,a2,a3", api.ErrMore, 12}, {"addi a0,a1,5,", api.ErrMore, 12}, {"ld a0,[x],a1", api.ErrMore, 9}, {"ld a0,[x]+4", api.ErrMore, 9}, {"sd a0,[x] 5", api.ErrMore, 10}, {"amoadd.d a0,a1,[x] a2", api.ErrMore, 19}, {"beqz a0,L M", api.ErrMore, 10}, {"beqz a0,a1,a2", api.ErrMore, 10}, {"bnez a0,L:", api.ErrMore, 9},
		// What uir.Right refuses, at the first word, behind all else.
		{"ld a0,[x+4]", api.ErrIns, 0}, {" (* a *) lw a0,[x+3]", api.ErrIns, 9}, {"ld a0,[x+8]", api.ErrIns, 0}, {"lh a0,[x+1]", api.ErrIns, 0}, {"lb a0,[x+8]", api.ErrIns, 0}, {"lw a0,[x+6+a1]", api.ErrIns, 0}, {"sh a0,[z+7]", api.ErrIns, 0}, {"sd a0,[z+1+a1]", api.ErrIns, 0}, {"amoswap.w.aq a0,a1,[x+2]", api.ErrIns, 0}, {"amoadd.h.rl a0,a1,[x+5+a2]", api.ErrIns, 0}, {"sb a0,[x+9223372036854775807]", api.ErrIns, 0}, {"sb a0,[x+9223372036854775808]", api.ErrIns, 0}, {"sb a0,[x+0x100000000]", api.ErrIns, 0},
		{"ld a0,[x+3] ,", api.ErrMore, 12}, {"ld a0,[x+3", api.ErrEnd, 10}, {"ld a0,[x+3+a8]", api.ErrWord, 11}, {"ld a0,[x+3+5]", api.ErrForm, 11},
	} {
		if got := parse(words(t, x.text)...); got != (told{e: x.e, at: x.at}) {
			t.Errorf("Parse of %q: %+v, want %d at %d", x.text, got, x.e, x.at)
		}
	}
}

// vocabulary has words of each kind: known ones, others, and marks.
var vocabulary = strings.Fields("li mv add subi ld lb sw amoswap.d amoadd.h.aq.rl amoadd.h.rl.aq fence beqz bnez lq LD a0 a7 a8 A0 x z X r rw wr L2 _ 0 1 2 4 8 0x6 9223372036854775808 [ ] , + - $ # ; : ( /\\")

// compare holds Parse against the model, over a text of these words.
func compare(t *testing.T, ways map[string][]way, sep string, row ...string) {
	t.Helper()
	ts := words(t, sep+strings.Join(row, sep))
	if got, want := parse(ts...), model(ways, ts); got != want {
		t.Errorf("Parse of %q: %+v, want %+v", strings.Join(row, sep), got, want)
	}
}

// 5.2: ErrIns of each offset that may not be, of each size.
func TestOffsets(t *testing.T) {
	ways := allWays()
	for _, row := range texts(strings.Fields("0 1 2 3 4 5 6 7 8 9 16 4294967296 9223372036854775800 9223372036854775807 9223372036854775808")...) {
		compare(t, ways, " ", row...)
	}
}

// 5.2: each text that is right, cut off behind each of its words; with each
// word in the place of each other, ahead of each other, and behind; without
// each; with two of them the other way round.
func TestTurnedTexts(t *testing.T) {
	ways := allWays()
	for _, row := range texts("2", "3") {
		for k := range len(row) + 1 {
			compare(t, ways, " ", row[:k]...)
			for _, w := range vocabulary {
				compare(t, ways, "\n ", slices.Insert(slices.Clone(row), k, w)...)
				if k < len(row) {
					compare(t, ways, " ", slices.Replace(slices.Clone(row), k, k+1, w)...)
				}
			}
			if k < len(row) {
				compare(t, ways, " (* *) ", slices.Delete(slices.Clone(row), k, k+1)...)
				compare(t, ways, " ", row[k:]...)
			}
			if k > 0 && k < len(row) {
				turned := slices.Clone(row)
				turned[k-1], turned[k] = turned[k], turned[k-1]
				compare(t, ways, " ", turned...)
			}
		}
	}
}

// All rows of up to three words.
func TestShortTexts(t *testing.T) {
	ways := allWays()
	for _, a := range vocabulary {
		compare(t, ways, " ", a)
		for _, b := range vocabulary {
			compare(t, ways, " ", a, b)
			for _, c := range vocabulary {
				compare(t, ways, " ", a, b, c)
			}
		}
	}
}

// 5.2, 6.1: each name that is near to one of the table's is one of them, or
// ErrWord.
func TestNearNames(t *testing.T) {
	ways := allWays()
	pieces := strings.Fields("l s li mv i b h w d q . amoswap amoadd .b .w .aq .rl fence beqz add sub xor and or z")
	for _, a := range pieces {
		for _, b := range append(pieces, "") {
			for _, c := range append(pieces, "") {
				if name := a + b + c; name[0] != '.' {
					compare(t, ways, "", name)
				}
			}
		}
	}
	ends := strings.Fields(".aq .rl .aq.rl .rl.aq .aq.aq .rl.rl .b .d aq rl .")
	for name := range ways {
		for _, end := range ends {
			compare(t, ways, "", name+end)
		}
		compare(t, ways, "", strings.ToUpper(name))
		compare(t, ways, "", name[1:])
		compare(t, ways, "", name[:len(name)-1])
	}
}

// dice draws numbers, the same ones each time.
type dice uint64

func (d *dice) below(n int) int {
	*d = *d*6364136223846793005 + 1442695040888963407
	return int(uint64(*d)>>33) % n
}

// Texts with some of their words turned at once.
func TestDrawnTexts(t *testing.T) {
	ways, rows := allWays(), texts("0", "4", "5")
	d := dice(6)
	for range 60000 {
		row := slices.Clone(rows[d.below(len(rows))])
		for range d.below(4) {
			k := d.below(len(row) + 1)
			w := vocabulary[d.below(len(vocabulary))]
			other := rows[d.below(len(rows))]
			switch d.below(3) {
			case 0:
				row = slices.Insert(row, k, w)
			case 1:
				row = append(row[:k], other[min(k, len(other)):]...)
			case 2:
				row = slices.Replace(row, min(k, len(row)), min(k+1, len(row)), w)
			}
		}
		compare(t, ways, " ", row...)
	}
}

// R3: the words that are handed in, and what lies behind them, stay.
func TestWordsStay(t *testing.T) {
	for _, text := range []string{"amoadd.b a0,a1,[x+4+a2] beqz a0,L", "beqz a0,L2 , li a0,-5", "li a0,-5 fence r,w", "fence r,rw mv a8 5"} {
		room := words(t, text)
		before := slices.Clone(room)
		for n := range len(room) + 1 {
			riscv.Parse(room[:n]...)
			if !slices.Equal(room, before) {
				t.Fatalf("the words are %v, they were %v", room, before)
			}
		}
	}
}

// R6: words that scan.Tokens does not tell.
func TestOddWords(t *testing.T) {
	texts := []string{"", "li", "ld", "amoadd.w", "l*", "fence", "beqz", "a0", "x", "rw", "[", ",", "-", "+", "]", "5", "\x00"}
	var odd []api.Token
	for _, text := range texts {
		for kind := -1; kind <= 4; kind++ {
			odd = append(odd, api.Token{Kind: kind, Text: text, N: math.MinInt, At: math.MaxInt})
		}
	}
	d := dice(7)
	for range 50000 {
		ts := make([]api.Token, d.below(9))
		for k := range ts {
			ts[k] = odd[d.below(len(odd))]
		}
		if i, label, e, _ := riscv.Parse(ts...); e != api.OK && (i != api.Ins{} || label != "") {
			t.Fatalf("Parse of %v: %d, and %+v, %q", ts, e, i, label)
		}
	}
}
