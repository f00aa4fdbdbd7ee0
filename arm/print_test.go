package arm_test

import (
	"math"
	"strings"
	"testing"

	"belated/api"
	"belated/arm"
	"belated/uir"
)

// 5.1, 7.1: the registers.
func TestRegisters(t *testing.T) {
	for n, name := range registerNames {
		if arm.Reg(name) != n || arm.Name(n) != name {
			t.Errorf("register %d is %q; %q is %d", n, arm.Name(n), name, arm.Reg(name))
		}
		for _, other := range []string{strings.ToLower(name), name + " ", " " + name, name + "0", name[1:], name[:1], "W" + name[1:]} {
			if arm.Reg(other) != -1 {
				t.Errorf("Reg(%q) = %d", other, arm.Reg(other))
			}
		}
	}
	for _, name := range []string{"", " ", "X", "X8", "X9", "X-1", "X00", "X10", "XZR", "SP", "R0", "RAX", "a0", "x", "0", "7", "X0,X1", "X0\x00"} {
		if arm.Reg(name) != -1 {
			t.Errorf("Reg(%q) = %d", name, arm.Reg(name))
		}
	}
	for _, n := range []int{-1, 8, -8, 9, 256, math.MinInt, math.MaxInt, 1 << 32} {
		if arm.Name(n) != "" {
			t.Errorf("Name(%d) = %q", n, arm.Name(n))
		}
	}
}

// canonical is all texts, as Print writes them, of instructions with numbers
// out of a few, by what they mean. It is made by the model's table.
func canonical(imms []int) map[api.Ins]string {
	texts := map[api.Ins]string{}
	for _, l := range lines() {
		head := l.name
		if l.slots != "" {
			head += " "
		}
		fillSlots(l, strings.Fields(l.slots), head, operands{index: -1}, imms, texts)
	}
	return texts
}

// fillSlots goes through all that may stand in the slots that are left.
func fillSlots(l line, slots []string, done string, o operands, imms []int, texts map[api.Ins]string) {
	if len(slots) == 0 {
		texts[l.ins(o)] = done
		return
	}
	next := func(text string, o operands) {
		fillSlots(l, slots[1:], done+text, o, imms, texts)
	}
	switch slots[0] {
	case "REG":
		for n, name := range registerNames {
			p := o
			p.regs = append(o.regs[:len(o.regs):len(o.regs)], n)
			next(name, p)
		}
	case "BARRIER":
		for n, name := range barrierNames {
			o.barrier = n
			next(name, o)
		}
	case "IMM":
		for _, n := range imms {
			o.imm = n
			next("#"+decimal(n), o)
		}
	case "MEM":
		for text, p := range places(l.ins(o).Size, o) {
			next(text, p)
		}
	case "LABEL":
		next("L2", o)
	default:
		next(slots[0], o)
	}
}

// places is all that an access of a size may be at.
func places(size int, o operands) map[string]operands {
	all := map[string]operands{}
	for loc, name := range locationNames {
		for off := 0; off < 8; off += size {
			o.loc, o.off, o.index = loc, off, -1
			text := "[" + name
			if off > 0 {
				text += "+" + decimal(off)
			}
			all[text+"]"] = o
			for n, reg := range registerNames {
				o.index = n
				all[text+"+"+reg+"]"] = o
			}
		}
	}
	return all
}

// decimal is a number as R10 has it, digit by digit.
func decimal(n int) string {
	if n < 0 {
		return "-" + digits(-uint64(n))
	}
	return digits(uint64(n))
}

func digits(n uint64) string {
	if n < 10 {
		return string(rune('0' + n))
	}
	return digits(n/10) + digits(n%10)
}

// candidates is instructions of each Op with fields out of a few: those that
// Arm has, those that it has not, and those that may not be.
func candidates(imms []int) []api.Ins {
	var all []api.Ins
	regs := []int{-1, 0, 1, 7, 8}
	for _, imm := range imms {
		for _, dst := range regs {
			all = append(all, konst(dst, imm))
			for _, a := range regs {
				for _, b := range regs {
					for fn := 0; fn <= 7; fn++ {
						all = append(all, alu(fn, dst, a, b, imm))
					}
				}
			}
		}
	}
	for dst := -1; dst <= 8; dst++ {
		for a := -1; a <= 8; a++ {
			all = append(all, move(dst, a))
		}
		all = append(all, branch(dst, true), branch(dst, false))
	}
	for op := -1; op <= 10; op++ {
		all = append(all, bare(op))
	}
	for pred := -1; pred <= 4; pred++ {
		for succ := -1; succ <= 4; succ++ {
			all = append(all, fence(pred, succ))
		}
	}
	return append(all, accesses()...)
}

func accesses() []api.Ins {
	var all []api.Ins
	for _, size := range []int{0, 1, 2, 3, 4, 8, 16} {
		for off := -1; off <= 8; off++ {
			for _, index := range []int{-2, -1, 0, 7, 8} {
				for _, reg := range []int{-1, 0, 1, 7, 8} {
					loc := (off+size+6)%5 - 1
					all = append(all, at(loc, off, index, size, load(reg)),
						at(loc, off, index, size, store(reg, 0)), at(loc, off, index, size, store(reg, -5)))
					for fn := 0; fn <= 7; fn++ {
						all = append(all, at(loc, off, index, size, rmw(fn, reg, 0, false, false)), at(loc, off, index, size, rmw(fn, 1, reg, false, false)))
					}
				}
			}
		}
	}
	return all
}

// marked is i with each choice of the marks that an access may have.
func marked(i api.Ins) []api.Ins {
	var all []api.Ins
	for n := range 8 {
		j := i
		j.Acq, j.Weak, j.Rel = n&1 > 0, n&2 > 0, n&4 > 0
		all = append(all, j)
	}
	return all
}

// 5.3, 7.1: an instruction is printed just if it is right and the table has a
// text of it; else it is refused by ErrIns, by ErrArch. 5.5: what is printed
// is parsed as it was.
func TestPrintOfEach(t *testing.T) {
	imms := []int{0, 1, -1, -5, 10, 100, 1234567890, math.MaxInt, math.MinInt}
	texts := canonical(imms)
	for i, want := range texts {
		printed(t, i, want, api.OK)
	}
	for _, i := range candidates(imms) {
		for _, j := range marked(i) {
			want, ok := texts[j]
			switch {
			case ok:
				printed(t, j, want, api.OK)
			case uir.Right(j, -1, 0) == api.ErrIns:
				printed(t, j, "", api.ErrIns)
			default:
				printed(t, j, "", api.ErrArch)
			}
		}
	}
}

func printed(t *testing.T, i api.Ins, want string, e api.Errno) {
	t.Helper()
	got, refused := arm.Print(i, "L2")
	if got != want || refused != e {
		t.Errorf("Print of %+v: %q, %d, want %q, %d", i, got, refused, want, e)
	}
	if e != api.OK {
		return
	}
	back := told{i: i}
	if i.Op == api.OpBranch {
		back.label = "L2"
	}
	if got := parse(words(t, want)...); got != back {
		t.Errorf("Parse of %q: %+v, want %+v", want, got, back)
	}
}

// 5.5: what was parsed is printed, and that is parsed as it was, however it
// was written.
func TestParsedIsPrinted(t *testing.T) {
	for _, row := range texts("0", "0x4", "006") {
		first := parse(words(t, strings.Join(row, " "))...)
		if first.e != api.OK {
			continue
		}
		text, e := arm.Print(first.i, first.label)
		if e != api.OK {
			t.Errorf("Print of %+v, which is %q: %d", first.i, row, e)
			continue
		}
		if again := parse(words(t, text)...); again != first {
			t.Errorf("%q is printed as %q, and parsed as %+v, want %+v", row, text, again, first)
		}
	}
}

// noneOfArm fails if an instruction that may be is not refused by ErrArch,
// with whatever label.
func noneOfArm(t *testing.T, what string, i api.Ins) {
	t.Helper()
	for _, label := range []string{"L", "", "L M"} {
		if text, e := arm.Print(i, label); text != "" || e != api.ErrArch {
			t.Errorf("Print of %s: %q, %d", what, text, e)
		}
	}
}

// 7.1: what Arm has none of, each by itself.
func TestPrintOfOtherArchitectures(t *testing.T) {
	for _, size := range []int{1, 2, 4, 8} {
		for _, rel := range []bool{false, true} {
			for _, imm := range []int{0, 1, -1, math.MaxInt, math.MinInt} {
				i := at(2, 0, 3, size, store(-1, imm))
				i.Rel = rel
				noneOfArm(t, "a store of an Imm", i)
			}
		}
	}
	for _, x := range [][2]int{{1, 1}, {1, 2}, {2, 1}, {2, 3}, {3, 1}, {3, 2}} {
		noneOfArm(t, "a fence "+decimal(x[0])+","+decimal(x[1]), fence(x[0], x[1]))
	}
}

// 5.3: a branch's label is one name, and nothing about it; of all other
// instructions it is not asked.
func TestLabels(t *testing.T) {
	long := strings.Repeat("L", api.MaxText)
	for _, label := range []string{"L", "L2", "_", "a.b", "_.", "X0", "CBZ", "x", "SY", "exists", long} {
		for _, to := range []int{0, 1, 8, -1, math.MaxInt, math.MinInt} {
			i := branch(2, true)
			i.To = to
			if text, e := arm.Print(i, label); text != "CBZ X2,"+label || e != api.OK {
				t.Errorf("Print of a branch to %d, label %.20q: %.20q, %d", to, label, text, e)
			}
		}
		if label == long {
			continue
		}
		if got := parse(words(t, "CBNZ X2,"+label)...); got != (told{i: branch(2, false), label: label}) {
			t.Errorf("Parse of a branch, label %q: %+v", label, got)
		}
	}
	for _, label := range []string{"", " ", "L M", " L", "L ", "L\n", "\tL", "(* a *)L", "L(* a *)", "(* L *)", "(* L", "5", "0x1", "2L", ".", ".L", "L:", "L,", "#", "-", "[", "L@", "@", "L\x00", "é", "Lé", "L-1", long + "L"} {
		for _, zero := range []bool{true, false} {
			if text, e := arm.Print(branch(0, zero), label); text != "" || e != api.ErrLabel {
				t.Errorf("Print of a branch, label %.20q: %.20q, %d", label, text, e)
			}
			for _, none := range []int{-1, 8} {
				if text, e := arm.Print(branch(none, zero), label); text != "" || e != api.ErrIns {
					t.Errorf("Print of a branch of no register, label %.20q: %q, %d", label, text, e)
				}
			}
		}
		if text, e := arm.Print(fence(1, 3), label); text != "DMB LD" || e != api.OK {
			t.Errorf("Print of a fence, label %.20q: %q, %d", label, text, e)
		}
	}
}

// R6: numbers that are far from any that may be.
func TestOddInstructions(t *testing.T) {
	far := []int{math.MinInt, -1 << 32, -2, -1, 0, 1, 3, 4, 8, 9, 1 << 32, math.MaxInt}
	d := dice(9)
	one := func() int { return far[d.below(len(far))] }
	for range 50000 {
		i := api.Ins{Op: d.below(12) - 1, Dst: one(), A: one(), B: one(), Imm: one(), Loc: one(), Off: one(), Index: one(), Size: one(), Fn: one(), Pred: one(), Succ: one(), To: one()}
		i.Acq, i.Weak, i.Rel, i.Zero = d.below(2) > 0, d.below(2) > 0, d.below(2) > 0, d.below(2) > 0
		if text, e := arm.Print(i, "L"); (text == "") != (e != api.OK) || uir.Right(i, -1, 0) == api.ErrIns && e != api.ErrIns {
			t.Fatalf("Print of %+v: %q, %d", i, text, e)
		}
	}
	for _, kind := range far {
		for _, i := range []api.Ins{fence(kind, 3), fence(3, kind), fence(1, kind), fence(kind, kind)} {
			if text, e := arm.Print(i, ""); (e == api.ErrIns) != (kind != 1 && kind != 3) || (e == api.OK) != (text != "") {
				t.Errorf("Print of %+v: %q, %d", i, text, e)
			}
		}
	}
}

// The chapter's examples.
func TestExamples(t *testing.T) {
	for text, want := range map[string]told{
		"LDAPRH X0,[x+2]":  {i: at(0, 2, -1, 2, weak(0))},
		"SWPALB X1,X0,[y]": {i: at(1, 0, -1, 1, rmw(api.FnSwap, 1, 0, true, true))},
		"DMB LD":           {i: fence(1, 3)},
		"DMB XX":           {e: api.ErrWord, at: 4},
	} {
		if got := parse(words(t, text)...); got != want {
			t.Errorf("Parse of %q: %+v, want %+v", text, got, want)
		}
	}
	if text, e := arm.Print(fence(3, 1), ""); text != "" || e != api.ErrArch {
		t.Errorf("Print of an OpFence 3, 1: %q, %d", text, e)
	}
}
