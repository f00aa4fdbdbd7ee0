package tso_test

import (
	"fmt"
	"slices"
	"testing"

	"belated/api"
	"belated/arm"
	"belated/litmus"
	"belated/riscv"
	"belated/tso"
	"belated/x86"
)

// plain is a model of the machine: one row of bytes for memory, rows of bytes
// that wait, and threads that are gone through one instruction at a time, anew
// from the beginning for each answer. No package of the project has a part in it.
type plain struct {
	t     api.Test
	at    [api.MaxThreads]int
	regs  [api.MaxThreads]file
	mem   [8 * api.MaxLocs]byte
	waits [api.MaxThreads][]late
}

// late is bytes that wait, and where in memory they are to begin.
type late struct {
	from  int
	bytes string
}

// behind is the model behind moves.
func behind(t api.Test, gone []api.Move) *plain {
	p := &plain{t: t, regs: t.Regs}
	for loc, v := range t.Init {
		b := bytesOf(v)
		copy(p.mem[8*loc:], b[:])
	}
	for thread := range t.Code {
		p.settle(thread)
	}
	for _, move := range gone {
		if move.Kind == api.MoveDrain {
			first := p.waits[move.Thread][0]
			copy(p.mem[first.from:], first.bytes)
			p.waits[move.Thread] = p.waits[move.Thread][1:]
			continue
		}
		p.goOn(move.Thread)
		p.settle(move.Thread)
	}
	return p
}

func (p *plain) next(thread int) (api.Ins, bool) {
	if c := p.t.Code[thread]; p.at[thread] < len(c) {
		return c[p.at[thread]], true
	}
	return api.Ins{}, false
}

// settle goes on as long as a thread touches nothing but its registers.
func (p *plain) settle(thread int) {
	for {
		i, ok := p.next(thread)
		if !ok || i.Op >= api.OpLoad && i.Op <= api.OpIsb {
			return
		}
		p.goOn(thread)
	}
}

// goOn goes through one instruction of a thread.
func (p *plain) goOn(thread int) {
	i, _ := p.next(thread)
	p.at[thread]++
	r := &p.regs[thread]
	second := i.Imm
	if i.B >= 0 {
		second = r[i.B]
	}
	switch i.Op {
	case api.OpConst:
		r[i.Dst] = i.Imm
	case api.OpMove:
		r[i.Dst] = r[i.A]
	case api.OpAlu:
		a := r[i.A]
		r[i.Dst] = [...]int{api.FnAdd: a + second, api.FnSub: a - second, api.FnXor: a ^ second, api.FnAnd: a & second, api.FnOr: a | second}[i.Fn]
	case api.OpBranch:
		if i.Zero == (r[i.A] == 0) {
			p.at[thread] = i.To
		}
	case api.OpLoad, api.OpStore, api.OpRmw:
		p.touch(thread, i)
	}
}

// touch does a memory operation, byte by byte.
func (p *plain) touch(thread int, i api.Ins) {
	r := &p.regs[thread]
	index, datum, carry := 0, i.Imm, 0
	if i.Index >= 0 {
		index = r[i.Index]
	}
	if i.A >= 0 {
		datum = r[i.A]
	}
	from, old, fresh := 8*i.Loc+first(i, index), 0, []byte(nil)
	for n := range i.Size {
		was := p.byteOf(thread, from+n)
		old |= int(was) << (8 * n)
		sum := int(bytesOf(datum)[n])
		if i.Op == api.OpRmw && i.Fn == api.FnAdd {
			sum += int(was) + carry
			carry = sum >> 8
		}
		fresh = append(fresh, byte(sum))
	}
	switch i.Op {
	case api.OpStore:
		p.waits[thread] = append(p.waits[thread], late{from, string(fresh)})
		return
	case api.OpRmw:
		copy(p.mem[from:], fresh)
	}
	r[i.Dst] = old
}

// byteOf is a byte of memory as a thread sees it.
func (p *plain) byteOf(thread, at int) byte {
	for _, l := range slices.Backward(p.waits[thread]) {
		if n := at - l.from; n >= 0 && n < len(l.bytes) {
			return l.bytes[n]
		}
	}
	return p.mem[at]
}

// state is what the machine is to tell.
func (p *plain) state() state {
	s := state{at: p.at, Outcome: api.Outcome{Regs: p.regs}}
	for loc := range s.Mem {
		s.Mem[loc] = valueOf([8]byte(p.mem[8*loc:]))
	}
	for thread, row := range p.waits {
		s.buffered[thread] = len(row)
	}
	return s
}

// whole is all that the model holds, as a text.
func (p *plain) whole() string {
	return fmt.Sprintf("%v %v %v %x", p.at, p.regs, p.mem, p.waits)
}

// moves is those of the model.
func (p *plain) moves() (out []api.Move) {
	for thread := range p.t.Code {
		i, ok := p.next(thread)
		waits := len(p.waits[thread]) > 0
		if ok && !(waits && (i.Op == api.OpRmw || i.Op == api.OpFence)) {
			out = append(out, at(thread, p.at[thread]))
		}
		if waits {
			out = append(out, drain(thread))
		}
	}
	return out
}

// ins draws an instruction, at a place of n. Few registers are used, so that
// they hang on one another.
func (d *dice) ins(at, n int) api.Ins {
	imm := d.value()
	reg := func() int { return d.below(4) }
	switch d.below(15) {
	case 0:
		return konst(reg(), imm)
	case 1:
		return move(reg(), reg())
	case 2:
		return alu(1+d.below(5), reg(), reg(), reg())
	case 3:
		return aluImm(1+d.below(5), reg(), reg(), imm)
	case 4:
		i := unless(reg(), at+1+d.below(n-at))
		i.Zero = d.flag()
		return i
	case 5:
		return isb()
	case 6:
		return fence(1+d.below(3), 1+d.below(3))
	}
	return d.op()
}

// op draws a memory operation.
func (d *dice) op() api.Ins {
	size := d.among(sizes)
	reg := func() int { return d.below(4) }
	touch := func(i api.Ins) api.Ins {
		i.Loc, i.Size, i.Off, i.Index = d.among([]int{0, 0, 1, 1, 2}), size, d.among(offsets[size]), reg()-1
		return i
	}
	switch d.below(8) {
	case 0, 1:
		return touch(load(reg(), 0))
	case 2:
		acq := d.flag()
		return marked(acq, !acq, false, touch(load(reg(), 0)))
	case 3, 4:
		return marked(false, false, d.flag(), touch(store(reg(), 0)))
	case 5, 6:
		return touch(put(0, d.value()))
	}
	fn := d.among([]int{api.FnAdd, api.FnSwap})
	return marked(d.flag(), false, d.flag(), touch(rmw(fn, reg(), reg(), 0)))
}

// value draws a number, 0 more often than others: branches ask for it.
func (d *dice) value() int {
	if d.below(3) == 0 {
		return 0
	}
	return d.among(odd)
}

// isOf is whether an architecture's language has an instruction.
func isOf(arch int, i api.Ins) bool {
	label := ""
	if i.Op == api.OpBranch {
		label = "L"
	}
	e := api.ErrArch
	switch arch {
	case api.X86:
		_, e = x86.Print(i, label)
	case api.RISCV:
		_, e = riscv.Print(i, label)
	case api.ARM:
		_, e = arm.Print(i, label)
	}
	return e == api.OK
}

// filled is a test with codes that are drawn of its architecture, of so many
// instructions at most, and with what is held at first.
func (d *dice) filled(x api.Test, most int) api.Test {
	for thread := range x.Code {
		n := d.below(most + 1)
		for at := 0; at < n; {
			if i := d.ins(at, n); isOf(x.Arch, i) {
				x.Code[thread] = append(x.Code[thread], i)
				at++
			}
		}
		for reg := range x.Regs[thread] {
			x.Regs[thread][reg] = d.value()
		}
	}
	for loc := range x.Init {
		x.Init[loc] = d.value()
	}
	return x
}

// right draws a right test, with codes of so many instructions at most.
func (d *dice) right(most int) api.Test {
	arch := 1 + d.below(3)
	for {
		x := test(make([]code, 1+d.below(api.MaxThreads))...)
		x.Arch = arch
		if x = d.filled(x, most); litmus.Check(x) == api.OK {
			return x
		}
	}
}

// tight draws a right test of two or three threads and six memory operations,
// that touch few bytes, and each of which reads into, writes out of a register
// of its own: outcomes tell what was read from where.
func (d *dice) tight() api.Test {
	x := test(make([]code, 2+d.below(2))...)
	x.Arch = 1 + d.below(3)
	for thread := range x.Code {
		ops := api.MaxOps / len(x.Code)
		for n := range ops {
			x.Code[thread] = append(x.Code[thread], d.near(n, ops))
			if d.below(8) == 0 {
				x.Code[thread] = append(x.Code[thread], fence(3, 3))
			}
		}
		for reg := 4; reg < api.MaxRegs; reg++ {
			x.Regs[thread][reg] = 0x0101010101010101 * (8*thread + reg)
		}
	}
	if litmus.Check(x) != api.OK {
		panic("a tight test is not right")
	}
	return x
}

// near draws the n-th of so many memory operations of a thread of a tight test,
// which is one of all architectures. Stores come early and loads late more often
// than the other way round: then more waits as it is read.
func (d *dice) near(n, ops int) api.Ins {
	i := load(n, 0)
	if d.below(12) == 0 {
		i = marked(true, false, true, swap(4+n, 4+n, 0))
	} else if d.below(ops+1) > n {
		i = store(4+n, 0)
	}
	size := d.among([]int{1, 2, 4, 8, 8})
	i = part(4*d.below(2)%(9-size), size, i)
	i.Loc = d.below(2)
	return i
}

// 16.1, 16.2, 16.3: at each state of many walks a machine tells what the model
// does; what there is not it does not do.
func TestManyWalks(t *testing.T) {
	t.Parallel()
	d := dice(16)
	threads, ops, drains, fns, leapt, most := [4]int{}, [api.OpBranch + 1]int{}, 0, [api.FnSwap + 1]int{}, 0, 0
	for range 12000 {
		x := d.right(api.MaxCode)
		m := tso.New(x)
		var gone []api.Move
		for {
			p := behind(x, gone)
			want := p.moves()
			moves(t, "a drawn test", m, want...)
			holds(t, "a drawn test", m, p.state())
			if d.below(4) == 0 {
				stuck(t, m)
			}
			if t.Failed() {
				t.Fatalf("behind the moves %v: %+v", gone, x)
			}
			if len(want) == 0 {
				break
			}
			pick := d.below(len(want))
			thread := want[pick].Thread
			most = max(most, m.Buffered(thread))
			goes(t, m, want[pick])
			gone = append(gone, want[pick])
			if want[pick].Kind == api.MoveDrain {
				drains++
				continue
			}
			i, _ := p.next(thread)
			ops[i.Op]++
			fns[i.Fn]++
			if m.At(thread) > want[pick].At+1 {
				leapt++
			}
		}
		threads[len(x.Code)]++
	}
	for op, n := range ops {
		if stops := op >= api.OpLoad && op <= api.OpIsb; stops && n < 1000 || !stops && n > 0 {
			t.Errorf("drawn too thin: %d of operation %d were done", n, op)
		}
	}
	if slices.Min(threads[1:]) < 1000 || fns[api.FnAdd] < 1000 || fns[api.FnSwap] < 1000 || leapt < 1000 || drains != ops[api.OpStore] || most < 5 {
		t.Errorf("drawn too thin: %v by threads, %v by Fn, %d over more than one, %d drains, %d in one buffer", threads, fns, leapt, drains, most)
	}
}

// 16.2: walks that drain late fill the buffers, and read out of them.
func TestLateDrains(t *testing.T) {
	t.Parallel()
	d := dice(161)
	own := 0
	for range 10000 {
		x := d.tight()
		m := tso.New(x)
		var gone []api.Move
		for {
			p := behind(x, gone)
			can := p.moves()
			moves(t, "a tight test", m, can...)
			holds(t, "a tight test", m, p.state())
			if t.Failed() {
				t.Fatalf("behind the moves %v: %+v", gone, x)
			}
			if len(can) == 0 {
				break
			}
			next := can[d.below(len(can))]
			if first := slices.IndexFunc(can, func(o api.Move) bool { return o.Kind == api.MoveDo }); first >= 0 && d.below(4) > 0 {
				next = can[first]
			}
			if i, ok := p.next(next.Thread); ok && next.Kind == api.MoveDo && i.Op == api.OpLoad && len(p.waits[next.Thread]) > 1 {
				own++
			}
			goes(t, m, next)
			gone = append(gone, next)
		}
	}
	if own < 400 {
		t.Errorf("drawn too thin: %d loads behind several writes that wait", own)
	}
}
