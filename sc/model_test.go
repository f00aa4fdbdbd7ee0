package sc_test

import (
	"slices"
	"testing"

	"belated/api"
	"belated/arm"
	"belated/litmus"
	"belated/riscv"
	"belated/sc"
	"belated/x86"
)

// plain is a model of the machine: one row of bytes for memory, and threads that
// are gone through one instruction at a time, anew from the beginning for each
// answer. No package of the project has a part in it.
type plain struct {
	t    api.Test
	at   [api.MaxThreads]int
	regs [api.MaxThreads]file
	mem  [8 * api.MaxLocs]byte
}

// behind is the model behind moves of these threads.
func behind(t api.Test, threads []int) *plain {
	p := &plain{t: t, regs: t.Regs}
	for loc, v := range t.Init {
		b := bytesOf(v)
		copy(p.mem[8*loc:], b[:])
	}
	for thread := range t.Code {
		p.settle(thread)
	}
	for _, thread := range threads {
		p.goOn(thread)
		p.settle(thread)
	}
	return p
}

func (p *plain) next(thread int) (api.Ins, bool) {
	if c := p.t.Code[thread]; p.at[thread] < len(c) {
		return c[p.at[thread]], true
	}
	return api.Ins{}, false
}

// settle goes on as long as a thread touches nothing but its registers.
func (p *plain) settle(thread int) {
	for {
		i, ok := p.next(thread)
		if !ok || i.Op >= api.OpLoad && i.Op <= api.OpIsb {
			return
		}
		p.goOn(thread)
	}
}

// goOn goes through one instruction of a thread.
func (p *plain) goOn(thread int) {
	i, _ := p.next(thread)
	p.at[thread]++
	r := &p.regs[thread]
	second := i.Imm
	if i.B >= 0 {
		second = r[i.B]
	}
	switch i.Op {
	case api.OpConst:
		r[i.Dst] = i.Imm
	case api.OpMove:
		r[i.Dst] = r[i.A]
	case api.OpAlu:
		a := r[i.A]
		r[i.Dst] = [...]int{api.FnAdd: a + second, api.FnSub: a - second, api.FnXor: a ^ second, api.FnAnd: a & second, api.FnOr: a | second}[i.Fn]
	case api.OpBranch:
		if i.Zero == (r[i.A] == 0) {
			p.at[thread] = i.To
		}
	case api.OpLoad, api.OpStore, api.OpRmw:
		p.touch(i, r)
	}
}

// touch does a memory operation, byte by byte.
func (p *plain) touch(i api.Ins, r *file) {
	index, datum, carry := 0, i.Imm, 0
	if i.Index >= 0 {
		index = r[i.Index]
	}
	if i.A >= 0 {
		datum = r[i.A]
	}
	from, old := 8*i.Loc+first(i, index), 0
	for n := range i.Size {
		was := p.mem[from+n]
		old |= int(was) << (8 * n)
		sum := int(bytesOf(datum)[n])
		if i.Op == api.OpRmw && i.Fn == api.FnAdd {
			sum += int(was) + carry
			carry = sum >> 8
		}
		if i.Op != api.OpLoad {
			p.mem[from+n] = byte(sum)
		}
	}
	if i.Op != api.OpStore {
		r[i.Dst] = old
	}
}

// state is all that hangs on what was done.
func (p *plain) state() state {
	s := state{at: p.at, Outcome: api.Outcome{Regs: p.regs}}
	for loc := range s.Mem {
		s.Mem[loc] = valueOf([8]byte(p.mem[8*loc:]))
	}
	return s
}

// moves is those of the model.
func (p *plain) moves() (out []api.Move) {
	for thread := range p.t.Code {
		if _, ok := p.next(thread); ok {
			out = append(out, at(thread, p.at[thread]))
		}
	}
	return out
}

// ins draws an instruction, at a place of n. Few registers are used, so that
// they hang on one another.
func (d *dice) ins(at, n int) api.Ins {
	size, imm := d.among(sizes), d.value()
	reg := func() int { return d.below(4) }
	touch := func(i api.Ins) api.Ins {
		i.Loc, i.Size, i.Off, i.Index = d.among([]int{0, 0, 1, 1, 2}), size, d.among(offsets[size]), reg()-1
		return i
	}
	switch d.below(14) {
	case 0:
		return konst(reg(), imm)
	case 1:
		return move(reg(), reg())
	case 2:
		return alu(1+d.below(5), reg(), reg(), reg())
	case 3:
		return aluImm(1+d.below(5), reg(), reg(), imm)
	case 4:
		return touch(load(reg(), 0))
	case 5:
		acq := d.flag()
		return marked(acq, !acq, false, touch(load(reg(), 0)))
	case 6, 7:
		return marked(false, false, d.flag(), touch(store(reg(), 0)))
	case 8:
		return touch(put(0, imm))
	case 9, 10:
		fn := d.among([]int{api.FnAdd, api.FnSwap})
		return marked(d.flag(), false, d.flag(), touch(rmw(fn, reg(), reg(), 0)))
	case 11:
		return isb()
	case 12:
		return fence(1+d.below(3), 1+d.below(3))
	}
	i := unless(reg(), at+1+d.below(n-at))
	i.Zero = d.flag()
	return i
}

// value draws a number, 0 more often than others: branches ask for it.
func (d *dice) value() int {
	if d.below(3) == 0 {
		return 0
	}
	return d.among(odd)
}

// isOf is whether an architecture's language has an instruction.
func isOf(arch int, i api.Ins) bool {
	label := ""
	if i.Op == api.OpBranch {
		label = "L"
	}
	e := api.ErrArch
	switch arch {
	case api.X86:
		_, e = x86.Print(i, label)
	case api.RISCV:
		_, e = riscv.Print(i, label)
	case api.ARM:
		_, e = arm.Print(i, label)
	}
	return e == api.OK
}

// right draws a right test, with codes of so many instructions at most.
func (d *dice) right(most int) api.Test {
	arch := 1 + d.below(3)
	for {
		x := test(make([]code, 1+d.below(api.MaxThreads))...)
		x.Arch = arch
		for thread := range x.Code {
			n := d.below(most + 1)
			for at := 0; at < n; {
				if i := d.ins(at, n); isOf(arch, i) {
					x.Code[thread] = append(x.Code[thread], i)
					at++
				}
			}
			for reg := range x.Regs[thread] {
				x.Regs[thread][reg] = d.value()
			}
		}
		for loc := range x.Init {
			x.Init[loc] = d.value()
		}
		if litmus.Check(x) == api.OK {
			return x
		}
	}
}

// 15.1: at each state of many walks a machine tells what the model does; what
// there is not it does not do.
func TestManyWalks(t *testing.T) {
	t.Parallel()
	d := dice(15)
	threads, ops, fns, leapt, ended := [4]int{}, [api.OpBranch + 1]int{}, [api.FnSwap + 1]int{}, 0, 0
	for range 12000 {
		x := d.right(api.MaxCode)
		m := sc.New(x)
		var gone []int
		for {
			p := behind(x, gone)
			want := p.moves()
			moves(t, "a drawn test", m, want...)
			holds(t, "a drawn test", m, p.state())
			if d.below(4) == 0 {
				stuck(t, m)
			}
			if t.Failed() {
				t.Fatalf("behind moves of the threads %v: %+v", gone, x)
			}
			if len(want) == 0 {
				break
			}
			pick := d.below(len(want))
			thread := want[pick].Thread
			i, _ := p.next(thread)
			ops[i.Op]++
			fns[i.Fn]++
			plays(t, m, pick)
			if m.At(thread) > want[pick].At+1 {
				leapt++
			}
			gone = append(gone, thread)
		}
		threads[len(x.Code)]++
		ended++
	}
	for op, n := range ops {
		if stops := op >= api.OpLoad && op <= api.OpIsb; stops && n < 1000 || !stops && n > 0 {
			t.Errorf("drawn too thin: %d of operation %d were done", n, op)
		}
	}
	if slices.Min(threads[1:]) < 1000 || fns[api.FnAdd] < 1000 || fns[api.FnSwap] < 1000 || leapt < 1000 {
		t.Errorf("drawn too thin: %v by threads, %v by Fn, %d over more than one", threads, fns, leapt)
	}
}
