package x86

import (
	"math"
	"strings"
	"testing"

	"belated/api"
	"belated/uir"
)

// 5.1, 5.4: the registers.
func TestRegisters(t *testing.T) {
	for n, name := range registerNames {
		if Reg(name) != n || Name(n) != name {
			t.Errorf("register %d is %q; %q is %d", n, Name(n), name, Reg(name))
		}
		for _, other := range []string{strings.ToLower(name), name + " ", " " + name, name + "X", name[1:], name[:len(name)-1]} {
			if Reg(other) != -1 {
				t.Errorf("Reg(%q) = %d", other, Reg(other))
			}
		}
	}
	for _, name := range []string{"", " ", "R", "R7", "R10", "EAX", "RIP", "RSP", "a0", "X0", "x", "0", "RAX,RBX", "RAX\x00"} {
		if Reg(name) != -1 {
			t.Errorf("Reg(%q) = %d", name, Reg(name))
		}
	}
	for _, n := range []int{-1, 8, -8, 9, 256, math.MinInt, math.MaxInt, 1 << 32} {
		if Name(n) != "" {
			t.Errorf("Name(%d) = %q", n, Name(n))
		}
	}
}

// canonical is all texts, as Print writes them, of instructions with numbers
// out of a few, by what they mean. It is made by the model's table.
func canonical(imms []int) map[api.Ins]string {
	texts := map[api.Ins]string{}
	for _, l := range lines() {
		slots := strings.Fields(l.slots)
		fillSlots(l, slots, nil, operands{index: -1}, imms, texts)
	}
	return texts
}

// fillSlots goes through all that may stand in the slots that are left.
func fillSlots(l line, slots, done []string, o operands, imms []int, texts map[api.Ins]string) {
	next := func(text string, o operands) {
		fillSlots(l, slots[1:], append(done[:len(done):len(done)], text), o, imms, texts)
	}
	if len(slots) == 0 {
		texts[l.ins(o, l.size)] = strings.TrimRight(l.name+" "+strings.Join(done, ""), " ")
		return
	}
	switch slots[0] {
	case "REG":
		for n, name := range registerNames {
			p := o
			p.regs = append(o.regs[:len(o.regs):len(o.regs)], n)
			next(name, p)
		}
	case "IMM":
		for _, n := range imms {
			o.imm = n
			next("$"+decimal(n), o)
		}
	case "MEM":
		for text, p := range places(l.size, o) {
			next(text, p)
		}
	case "LABEL":
		next("L2", o)
	default:
		next(slots[0], o)
	}
}

// places is all that an access of a size may be at.
func places(size int, o operands) map[string]operands {
	all := map[string]operands{}
	for loc, name := range []string{"x", "y", "z"} {
		for off := 0; off < 8; off += size {
			o.loc, o.off, o.index = loc, off, -1
			text := "[" + name
			if off > 0 {
				text += "+" + decimal(off)
			}
			all[text+"]"] = o
			for n, reg := range registerNames {
				o.index = n
				all[text+"+"+reg+"]"] = o
			}
		}
	}
	return all
}

// decimal is a number as R10 has it, digit by digit.
func decimal(n int) string {
	if n < 0 {
		return "-" + digits(-uint64(n))
	}
	return digits(uint64(n))
}

func digits(n uint64) string {
	if n < 10 {
		return string(rune('0' + n))
	}
	return digits(n/10) + digits(n%10)
}

// candidates is instructions of each Op with fields out of a few: those that
// x86 has, those that it has not, and those that may not be.
func candidates(imms []int) []api.Ins {
	var all []api.Ins
	regs := []int{-1, 0, 1, 7}
	for _, imm := range imms {
		for _, dst := range regs {
			all = append(all, konst(dst, imm))
			for _, a := range regs {
				for _, b := range regs {
					for fn := 0; fn <= 7; fn++ {
						all = append(all, alu(fn, dst, a, b, imm))
					}
				}
			}
		}
	}
	for dst := -1; dst <= 8; dst++ {
		for a := -1; a <= 8; a++ {
			all = append(all, move(dst, a))
		}
		all = append(all, branch(dst, true), branch(dst, false))
	}
	for op := -1; op <= 10; op++ {
		all = append(all, bare(op))
	}
	for pred := -1; pred <= 4; pred++ {
		for succ := -1; succ <= 4; succ++ {
			all = append(all, fence(pred, succ))
		}
	}
	return append(all, accesses()...)
}

func accesses() []api.Ins {
	var all []api.Ins
	for _, size := range []int{0, 1, 2, 3, 4, 8, 16} {
		for off := -1; off <= 8; off++ {
			for _, index := range []int{-2, -1, 0, 7, 8} {
				for _, reg := range []int{-1, 0, 1, 7} {
					loc := (off + size + 6) % 5
					all = append(all, at(loc-1, off, index, size, load(reg)),
						at(loc-1, off, index, size, store(reg, 0)), at(loc-1, off, index, size, store(reg, -5)))
					for fn := 0; fn <= 7; fn++ {
						all = append(all, at(loc-1, off, index, size, rmw(fn, reg, 0)), at(loc-1, off, index, size, rmw(fn, reg, reg)))
					}
				}
			}
		}
	}
	return all
}

// marked is i with each choice of the marks that an access may have.
func marked(i api.Ins) []api.Ins {
	var all []api.Ins
	for n := range 8 {
		j := i
		j.Acq, j.Weak, j.Rel = n&1 > 0, n&2 > 0, n&4 > 0
		all = append(all, j)
	}
	return all
}

// 5.3, 5.4: an instruction is printed just if it is right and the table has a
// text of it; else it is refused by ErrIns, by ErrArch. 5.5: what is printed
// is parsed as it was.
func TestPrintOfEach(t *testing.T) {
	imms := []int{0, 1, -1, -5, 10, 100, 1234567890, math.MaxInt, math.MinInt}
	texts := canonical(imms)
	for i, want := range texts {
		printed(t, i, want, api.OK)
	}
	for _, i := range candidates(imms) {
		for _, j := range marked(i) {
			want, ok := texts[j]
			switch {
			case ok:
				printed(t, j, want, api.OK)
			case uir.Right(j, -1, 0) == api.ErrIns:
				printed(t, j, "", api.ErrIns)
			default:
				printed(t, j, "", api.ErrArch)
			}
		}
	}
}

func printed(t *testing.T, i api.Ins, want string, e api.Errno) {
	t.Helper()
	got, refused := Print(i, "L2")
	if got != want || refused != e {
		t.Errorf("Print of %+v: %q, %d, want %q, %d", i, got, refused, want, e)
	}
	if e != api.OK {
		return
	}
	back := told{i: i}
	if i.Op == api.OpBranch {
		back.label = "L2"
	}
	if got := parse(words(t, want)...); got != back {
		t.Errorf("Parse of %q: %+v, want %+v", want, got, back)
	}
}

// 5.3: what x86 has none of, each by itself.
func TestPrintOfOtherArchitectures(t *testing.T) {
	ld, st := at(0, 0, -1, 8, load(0)), at(0, 0, -1, 8, store(0, 0))
	swap, add := at(0, 0, -1, 8, rmw(api.FnSwap, 0, 0)), at(0, 0, -1, 8, rmw(api.FnAdd, 0, 0))
	turned := func(i api.Ins, set func(i *api.Ins)) api.Ins {
		set(&i)
		return i
	}
	for what, i := range map[string]api.Ins{
		"a load with Acq":           turned(ld, func(i *api.Ins) { i.Acq = true }),
		"a load with Weak":          turned(ld, func(i *api.Ins) { i.Weak = true }),
		"a store with Rel":          turned(st, func(i *api.Ins) { i.Rel = true }),
		"a store of an Imm, Rel":    turned(st, func(i *api.Ins) { i.A, i.Imm, i.Rel = -1, 1, true }),
		"an OpIsb":                  bare(api.OpIsb),
		"an OpAlu of two registers": alu(api.FnAdd, 0, 1, 0, 0),
		"an OpAlu of three":         alu(api.FnOr, 0, 1, 2, 0),
		"an OpAlu with Imm":         alu(api.FnXor, 0, 1, -1, 5),
		"a swap with another Dst":   turned(swap, func(i *api.Ins) { i.Dst = 1 }),
		"a sum with another Dst":    turned(add, func(i *api.Ins) { i.A = 1 }),
		"a swap without Acq":        turned(swap, func(i *api.Ins) { i.Acq = false }),
		"a swap without Rel":        turned(swap, func(i *api.Ins) { i.Rel = false }),
		"a swap without both":       turned(swap, func(i *api.Ins) { i.Acq, i.Rel = false, false }),
		"a sum without Acq":         turned(add, func(i *api.Ins) { i.Acq = false }),
		"a sum without Rel":         turned(add, func(i *api.Ins) { i.Rel = false }),
		"a sum without both":        turned(add, func(i *api.Ins) { i.Acq, i.Rel = false, false }),
	} {
		if text, e := Print(i, "L"); text != "" || e != api.ErrArch {
			t.Errorf("Print of %s: %q, %d", what, text, e)
		}
	}
	for pred := 1; pred <= 3; pred++ {
		for succ := 1; succ <= 3; succ++ {
			if _, e := Print(fence(pred, succ), ""); (e == api.OK) != (pred == 3 && succ == 3) || e != api.OK && e != api.ErrArch {
				t.Errorf("Print of a fence %d, %d: %d", pred, succ, e)
			}
		}
	}
}

// 5.3: a branch's label is one name, and nothing about it; of all other
// instructions it is not asked.
func TestLabels(t *testing.T) {
	long := strings.Repeat("L", api.MaxText)
	for _, label := range []string{"L", "L2", "_", "a.b", "_.", "RAX", "JZ", "x", "exists", long} {
		for _, to := range []int{0, 1, 8, -1, math.MaxInt, math.MinInt} {
			i := branch(2, true)
			i.To = to
			text, e := Print(i, label)
			if text != "JZ RCX,"+label || e != api.OK {
				t.Errorf("Print of a branch to %d, label %.20q: %.20q, %d", to, label, text, e)
			}
		}
		if label == long {
			continue
		}
		if got := parse(words(t, "JZ RCX,"+label)...); got != (told{i: branch(2, true), label: label}) {
			t.Errorf("Parse of a branch, label %q: %+v", label, got)
		}
	}
	for _, label := range []string{"", " ", "L M", " L", "L ", "L\n", "\tL", "(* a *)L", "L(* a *)", "(* L *)", "(* L", "5", "0x1", "2L", ".", ".L", "L:", "L,", "-", "[", "L@", "@", "L\x00", "é", "Lé", "L-1", long + "L"} {
		for _, zero := range []bool{true, false} {
			if text, e := Print(branch(0, zero), label); text != "" || e != api.ErrLabel {
				t.Errorf("Print of a branch, label %.20q: %.20q, %d", label, text, e)
			}
			if text, e := Print(branch(8, zero), label); text != "" || e != api.ErrIns {
				t.Errorf("Print of a branch of no register, label %.20q: %q, %d", label, text, e)
			}
		}
		if text, e := Print(fence(3, 3), label); text != "MFENCE" || e != api.OK {
			t.Errorf("Print of a fence, label %.20q: %q, %d", label, text, e)
		}
		if text, e := Print(bare(api.OpIsb), label); text != "" || e != api.ErrArch {
			t.Errorf("Print of an OpIsb, label %.20q: %q, %d", label, text, e)
		}
	}
}

// The chapter's examples.
func TestExamples(t *testing.T) {
	for text, want := range map[string]told{
		"MOVL [x+4],RBX": {i: at(0, 4, -1, 4, store(1, 0))},
		"XCHGQ RAX,[y]":  {i: at(1, 0, -1, 8, rmw(api.FnSwap, 0, 0))},
		"JZ RCX,L2":      {i: branch(2, true), label: "L2"},
		"MOVL [x+3],RBX": {e: api.ErrIns},
		"MOVE RAX,RBX":   {e: api.ErrWord},
		"MOV RAX":        {e: api.ErrEnd, at: 7},
		"MOV RAX,5":      {e: api.ErrForm, at: 8},
		"MFENCE ,":       {e: api.ErrMore, at: 7},
	} {
		if got := parse(words(t, text)...); got != want {
			t.Errorf("Parse of %q: %+v, want %+v", text, got, want)
		}
	}
	if text, e := Print(at(2, 2, 1, 2, load(0)), ""); text != "MOVW RAX,[z+2+RBX]" || e != api.OK {
		t.Errorf("Print of a load: %q, %d", text, e)
	}
}
