package mach_test

import (
	"math"
	"slices"
	"testing"

	"belated/api"
	"belated/bits"
	"belated/mach"
	"belated/uir"
)

// after is where a thread stands behind a row of Passes: a model that goes
// through the code anew from its beginning for each answer.
func after(c code, regs file, olds []int) stood {
	for at := 0; at < len(c); {
		i, ahead := c[at], regs
		of := func(reg, other int) int {
			if reg < 0 {
				return other
			}
			return ahead[reg]
		}
		at++
		switch i.Op {
		case api.OpConst:
			regs[i.Dst] = i.Imm
		case api.OpMove:
			regs[i.Dst] = ahead[i.A]
		case api.OpAlu:
			b := of(i.B, i.Imm)
			regs[i.Dst] = [...]int{api.FnAdd: ahead[i.A] + b, api.FnSub: ahead[i.A] - b, api.FnXor: ahead[i.A] ^ b, api.FnAnd: ahead[i.A] & b, api.FnOr: ahead[i.A] | b}[i.Fn]
		case api.OpBranch:
			if i.Zero && ahead[i.A] == 0 || !i.Zero && ahead[i.A] != 0 {
				at = i.To
			}
		default:
			if len(olds) == 0 {
				s := stood{at: at - 1, ready: true, ins: i, regs: regs}
				if i.Op <= api.OpRmw {
					s.spot, s.span = true, api.Span{Loc: i.Loc, Mask: place(i.Off, of(i.Index, 0), i.Size)}
				}
				switch i.Op {
				case api.OpStore:
					s.datum = low(of(i.A, i.Imm), i.Size)
				case api.OpRmw:
					s.datum = ahead[i.A]
				}
				return s
			}
			if i.Op == api.OpLoad || i.Op == api.OpRmw {
				regs[i.Dst] = low(olds[0], i.Size)
			}
			olds = olds[1:]
		}
	}
	return stood{at: len(c), regs: regs}
}

// ins draws a right instruction, at a place of n. Few registers are used, so
// that they hang on one another.
func (d *dice) ins(at, n int) api.Ins {
	size, imm := d.among(sizes), d.among(odd)
	reg := func() int { return d.below(4) }
	touch := func(i api.Ins) api.Ins {
		i.Loc, i.Size, i.Off, i.Index = d.below(3), size, d.among(offsets[size]), reg()-1
		return i
	}
	switch d.below(13) {
	case 0:
		return konst(reg(), imm)
	case 1:
		return move(reg(), reg())
	case 2:
		return alu(1+d.below(5), reg(), reg(), reg())
	case 3:
		return aluImm(1+d.below(5), reg(), reg(), imm)
	case 4:
		return touch(load(reg(), 0))
	case 5:
		acq := d.flag()
		return marked(acq, !acq, false, touch(load(reg(), 0)))
	case 6:
		return marked(false, false, d.flag(), touch(store(reg(), 0)))
	case 7:
		return touch(put(0, imm))
	case 8, 9:
		return marked(d.flag(), false, d.flag(), touch(rmw(d.among([]int{api.FnAdd, api.FnSwap}), reg(), reg(), 0)))
	case 10:
		if d.flag() {
			return isb()
		}
		return fence(1+d.below(3), 1+d.below(3))
	}
	i := unless(reg(), at+1+d.below(n-at))
	i.Zero = d.flag()
	return i
}

// right draws a test that is right.
func (d *dice) right() api.Test {
	for {
		codes := make([]code, 1+d.below(api.MaxThreads))
		for thread := range codes {
			n := d.below(api.MaxCode + 1)
			for at := range n {
				codes[thread] = append(codes[thread], d.ins(at, n))
			}
		}
		if _, _, e := uir.Check(codes...); e == api.OK {
			x := test(codes)
			for thread := range x.Regs {
				for reg := range x.Regs[thread] {
					x.Regs[thread][reg] = d.value()
				}
			}
			return x
		}
	}
}

// value draws a number, 0 more often than others: branches ask for it.
func (d *dice) value() int {
	if d.below(3) == 0 {
		return 0
	}
	return d.among(odd)
}

// 14.2, 14.3: at each place of many walks a core tells what the model does.
func TestManyCores(t *testing.T) {
	d := dice(14)
	passed, ended, leapt := [api.OpBranch + 1]int{}, 0, 0
	for range 20000 {
		x := d.right()
		c := mach.NewCore(x)
		olds := make([][]int, len(x.Code))
		if c.Threads() != len(x.Code) {
			t.Fatalf("14.2: Threads of %+v = %d", x, c.Threads())
		}
		for range 30 {
			for thread, code := range x.Code {
				if got, want := told(c, thread), after(code, x.Regs[thread], olds[thread]); got != want {
					t.Fatalf("%+v from %v, behind %v:\n got %+v\nwant %+v", code, x.Regs[thread], olds[thread], got, want)
				}
			}
			thread, old := d.below(len(x.Code)), d.value()
			i, ready := c.Ready(thread)
			from := c.At(thread)
			if c.Pass(thread, old) != ready {
				t.Fatalf("14.3: Pass of %+v, thread %d, is %v", x, thread, !ready)
			}
			if !ready {
				ended++
				continue
			}
			olds[thread] = append(olds[thread], old)
			passed[i.Op]++
			if c.At(thread) > from+1 {
				leapt++
			}
		}
	}
	for op, n := range passed {
		if stops := op >= api.OpLoad && op <= api.OpIsb; stops && n < 1000 || !stops && n > 0 {
			t.Errorf("drawn too thin: %d of operation %d were passed", n, op)
		}
	}
	if ended < 1000 || leapt < 1000 {
		t.Errorf("drawn too thin: %d at an end, %d over more than one", ended, leapt)
	}
}

// 14.4: a thread passes no more instructions than its code has, and ends as
// uir.Local does; the events on the way are those at which it stood.
func TestAsLocal(t *testing.T) {
	d := dice(44)
	longest, events := 0, 0
	for range 20000 {
		x := d.right()
		c := mach.NewCore(x)
		for thread, code := range x.Code {
			reads := make([]int, api.MaxOps)
			for n := range reads {
				reads[n] = d.value()
			}
			regs, evs, path, e := uir.Local(code, x.Regs[thread], reads...)
			if e != api.OK {
				t.Fatalf("Local of %+v: %d", code, e)
			}
			n := 0
			for s := told(c, thread); s.ready; s = told(c, thread) {
				if n >= len(evs) || n >= len(code) {
					t.Fatalf("14.4: more is passed than is gone through: %+v, path %v", code, path)
				}
				old := 0
				if uir.Reads(s.ins) {
					old, reads = reads[0], reads[1:]
				}
				if ev := eventOf(s, old); !alike(ev, evs[n]) {
					t.Fatalf("14.4: of %+v, number %d:\n got %+v\nwant %+v", code, n, ev, evs[n])
				}
				c.Pass(thread, old)
				n++
			}
			if n != len(evs) || told(c, thread) != (stood{at: len(code), regs: regs}) {
				t.Fatalf("14.4: %+v ends behind %d as %+v, want %d, %v", code, n, told(c, thread), len(evs), regs)
			}
			longest, events = max(longest, n), events+n
		}
	}
	if longest < 7 || events < 20000 {
		t.Errorf("drawn too thin: at most %d were passed, %d in all", longest, events)
	}
	// No code that is right is passed in more steps than this one.
	c := alone(t, file{}, slices.Repeat(code{isb()}, api.MaxCode)...)
	for n := range api.MaxCode {
		if c.At(0) != n || !c.Pass(0, 0) {
			t.Errorf("14.4: at %d, want %d", c.At(0), n)
		}
	}
	if c.At(0) != api.MaxCode || c.Pass(0, 0) {
		t.Error("14.4: more is passed than the code has")
	}
}

// eventOf is what is told of an instruction at which a thread stood.
func eventOf(s stood, old int) api.Event {
	ev := api.Event{At: s.at, Op: s.ins.Op, Span: s.span, Reads: uir.Reads(s.ins), Writes: uir.Writes(s.ins),
		Acq: s.ins.Acq, Weak: s.ins.Weak, Rel: s.ins.Rel, Pred: s.ins.Pred, Succ: s.ins.Succ}
	if ev.Reads {
		ev.Old = low(old, s.ins.Size)
	}
	switch s.ins.Op {
	case api.OpStore:
		ev.New = s.datum
	case api.OpRmw:
		ev.New = bits.Rmw(s.ins.Fn, ev.Old, s.datum, s.ins.Size)
	}
	return ev
}

// alike is whether two events are the same but for their places.
func alike(a, b api.Event) bool {
	a.Pos, b.Pos = 0, 0
	return a == b
}

// 14.3: two cores of a test have one Mark just if they stand alike, with the
// same registers.
func TestManyMarks(t *testing.T) {
	d := dice(143)
	same, registers, stands := 0, 0, 0
	for range 400 {
		x := d.right()
		cores := []*mach.Core{mach.NewCore(x)}
		for len(cores) < 60 {
			c := cores[d.below(len(cores))].Copy()
			if c.Pass(d.below(len(x.Code)), d.among([]int{0, 1, 11, -1, math.MinInt})) || d.below(8) == 0 {
				cores = append(cores, c)
			}
			if d.below(50) == 0 {
				cores = append(cores, mach.NewCore(x))
			}
		}
		for _, a := range cores {
			for _, b := range cores {
				at, regs := true, true
				for thread := range x.Code {
					p, q := told(a, thread), told(b, thread)
					at, regs = at && p.at == q.at, regs && p.regs == q.regs
				}
				if (a.Mark() == b.Mark()) != (at && regs) {
					t.Fatalf("14.3: of %+v: Marks %q and %q, alike: %v, with the same registers: %v", x, a.Mark(), b.Mark(), at, regs)
				}
				switch {
				case at && regs && a != b:
					same++
				case at:
					registers++
				case regs:
					stands++
				}
			}
		}
	}
	if same < 1000 || registers < 1000 || stands < 1000 {
		t.Errorf("drawn too thin: %d alike, %d with other registers, %d apart with the same", same, registers, stands)
	}
}
