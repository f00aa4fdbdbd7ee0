package mach_test

import (
	"math"
	"testing"

	"belated/api"
	"belated/mach"
)

// The chapter's table.
func TestExample(t *testing.T) {
	c := alone(t, file{}, konst(1, 5), store(1, x), load(2, y))
	tells(t, "at first", c, 0, stood{at: 1, ready: true, ins: store(1, x), regs: file{1: 5}, spot: true, span: api.Span{Mask: 255}, datum: 5})
	passes(t, c, 0, 0)
	tells(t, "behind the store", c, 0, stood{at: 2, ready: true, ins: load(2, y), regs: file{1: 5}, spot: true, span: api.Span{Loc: y, Mask: 255}})
	passes(t, c, 0, 9)
	tells(t, "behind the load", c, 0, stood{at: 3, regs: file{1: 5, 2: 9}})
}

// 14.2: registers are those of the test at first, of each thread its own.
func TestThreads(t *testing.T) {
	regs := []file{{1, 2, 3, 4, 5, 6, 7, 8}, {-1, 0, math.MinInt, math.MaxInt, 0, 0, 0, 9}, {7: 1}}
	codes := []code{{load(0, x)}, {fence(1, 2)}, {isb()}}
	for n := 1; n <= 3; n++ {
		c := core(t, codes[:n], regs...)
		if c.Threads() != n {
			t.Errorf("14.2: Threads of %d codes = %d", n, c.Threads())
		}
		for thread := range n {
			want := stood{ready: true, ins: codes[thread][0], regs: regs[thread]}
			if thread == 0 {
				want.spot, want.span = true, api.Span{Mask: 255}
			}
			tells(t, "14.2: at first", c, thread, want)
		}
		for thread := n; thread < 4; thread++ {
			tells(t, "14.3: no such thread, with registers in the test", c, thread, stood{})
		}
	}
}

// 14.2: what a thread goes through at once, and what it stands at.
func TestAtOnce(t *testing.T) {
	at := file{10, 11, 12, 0, -1, math.MaxInt, math.MinInt, 17}
	for _, k := range []struct {
		what     string
		i        api.Ins
		reg, val int
	}{
		{"OpConst", konst(0, 5), 0, 5}, {"OpConst of register 7", konst(7, math.MinInt), 7, math.MinInt}, {"OpConst 0", konst(1, 0), 1, 0},
		{"OpMove", move(0, 7), 0, 17}, {"OpMove to itself", move(2, 2), 2, 12}, {"OpMove of what is below 0", move(7, 4), 7, -1},
		{"FnAdd", alu(api.FnAdd, 3, 0, 1), 3, 21}, {"FnAdd that wraps", aluImm(api.FnAdd, 0, 5, 1), 0, math.MinInt}, {"FnAdd to itself", alu(api.FnAdd, 0, 0, 0), 0, 20},
		{"FnSub", alu(api.FnSub, 3, 0, 1), 3, -1}, {"FnSub that wraps", aluImm(api.FnSub, 0, 6, 1), 0, math.MaxInt},
		{"FnXor", alu(api.FnXor, 3, 0, 2), 3, 6}, {"FnXor with itself", alu(api.FnXor, 4, 4, 4), 4, 0},
		{"FnAnd", alu(api.FnAnd, 3, 0, 2), 3, 8}, {"FnAnd of an Imm", aluImm(api.FnAnd, 4, 4, 255), 4, 255},
		{"FnOr", alu(api.FnOr, 3, 0, 1), 3, 11}, {"FnOr of Imm 0", aluImm(api.FnOr, 3, 7, 0), 3, 17}, {"register 0 as B", alu(api.FnAdd, 3, 1, 0), 3, 21},
	} {
		want := at
		want[k.reg] = k.val
		tells(t, "14.2: a code of one "+k.what, alone(t, at, k.i), 0, stood{at: 1, regs: want})
		tells(t, "14.2: ahead of a fence, "+k.what, alone(t, at, k.i, fence(3, 3)), 0, stood{at: 1, ready: true, ins: fence(3, 3), regs: want})
		c := alone(t, at, isb(), k.i, isb())
		tells(t, "14.2: not yet, "+k.what, c, 0, stood{ready: true, ins: isb(), regs: at})
		passes(t, c, 0, 99)
		tells(t, "14.2: behind a Pass, "+k.what, c, 0, stood{at: 2, ready: true, ins: isb(), regs: want})
	}
	c := alone(t, at, konst(0, 5), aluImm(api.FnSub, 1, 0, 7), move(2, 1), alu(api.FnXor, 2, 2, 0), alu(api.FnAdd, 0, 0, 0), load(3, z), alu(api.FnOr, 3, 3, 0), aluImm(api.FnAnd, 3, 3, 12))
	want := file{10, -2, -5, 0, -1, math.MaxInt, math.MinInt, 17}
	tells(t, "14.2: many in a row", c, 0, stood{at: 5, ready: true, ins: load(3, z), regs: want, spot: true, span: api.Span{Loc: z, Mask: 255}})
	passes(t, c, 0, 5)
	want[3] = 12
	tells(t, "14.2: many in a row, behind a Pass", c, 0, stood{at: 8, regs: want})
}

// 14.2: a branch goes as its register says, to the end too.
func TestBranches(t *testing.T) {
	// Behind the branch each instruction adds a bit of its own to r7.
	bit := func(n int) api.Ins { return aluImm(api.FnOr, 7, 7, 1<<n) }
	for _, k := range []struct {
		what   string
		branch api.Ins
		r0, r7 int
	}{
		{"if zero, and it is", ifZero(0, 3), 0, 4},
		{"if zero, and it is not", ifZero(0, 3), 1, 7},
		{"if not zero, and it is", unless(0, 3), 0, 7},
		{"if not zero, and it is not", unless(0, 3), -1, 4},
		{"if not zero, of the highest bit alone", unless(0, 3), math.MinInt, 4},
		{"if zero, of the highest bit alone", ifZero(0, 3), math.MinInt, 7},
		{"to the next, gone", ifZero(0, 1), 0, 7},
		{"to the next, not gone", ifZero(0, 1), 1, 7},
		{"to the end, gone", unless(0, 4), 1, 0},
		{"to the end, not gone", unless(0, 4), 0, 7},
	} {
		c := alone(t, file{k.r0}, k.branch, bit(0), bit(1), bit(2))
		tells(t, "14.2: "+k.what, c, 0, stood{at: 4, regs: file{k.r0, 7: k.r7}})
	}
}

// 14.2: branches one behind the other, to memory operations and over them.
func TestBranchesInARow(t *testing.T) {
	c := code{load(0, x), ifZero(0, 3), put(y, 1), unless(0, 5), load(1, y), ifZero(1, 8), konst(2, 7), isb()}
	for _, k := range []struct {
		olds []int
		want []int // where it stands, at first and behind each Pass
		regs file
	}{
		{[]int{0, 0}, []int{0, 4, 8}, file{}},
		{[]int{0, 5, 0}, []int{0, 4, 7, 8}, file{1: 5, 2: 7}},
		{[]int{3, 9}, []int{0, 2, 8}, file{0: 3}},
	} {
		core := alone(t, file{}, c...)
		for n, at := range k.want {
			if core.At(0) != at {
				t.Errorf("14.2: olds %v: behind %d it stands at %d, want %d", k.olds, n, core.At(0), at)
			}
			if n < len(k.olds) {
				passes(t, core, 0, k.olds[n])
			}
		}
		tells(t, "14.2: at the end", core, 0, stood{at: 8, regs: k.regs})
	}
	gone := alone(t, file{1: 1}, unless(1, 2), load(0, x), unless(1, 4), put(x, 1), unless(1, 6), isb())
	tells(t, "14.2: three branches over all else", gone, 0, stood{at: 6, regs: file{1: 1}})
}

// 14.2, 14.3: a thread at its end: with no code, one that ends at once, one that was passed.
func TestTheEnd(t *testing.T) {
	regs := file{4: 44}
	c := core(t, []code{nil, {konst(0, 1), ifZero(1, 4), load(2, x), isb()}, {part(4, 4, put(z, 1))}}, regs, regs, regs)
	passes(t, c, 2, 5)
	for range 3 {
		tells(t, "14.2: no code", c, 0, stood{regs: regs})
		tells(t, "14.2: it ends at once", c, 1, stood{at: 4, regs: file{0: 1, 4: 44}})
		tells(t, "14.2: past its only one", c, 2, stood{at: 1, regs: regs})
		for thread := range 3 {
			if c.Pass(thread, 7) {
				t.Errorf("14.3: Pass of thread %d at its end is true", thread)
			}
		}
	}
	if c.Threads() != 3 {
		t.Errorf("14.2: Threads at the end = %d", c.Threads())
	}
}

// 14.3: the footprint, of every size and offset, with and without a register.
func TestFootprints(t *testing.T) {
	for loc := range 3 {
		for _, size := range sizes {
			for _, off := range offsets[size] {
				for _, op := range []api.Ins{load(5, loc), store(6, loc), put(loc, 3), rmw(api.FnAdd, 5, 6, loc), rmw(api.FnSwap, 5, 6, loc)} {
					i := part(off, size, op)
					footprint(t, i, file{}, api.Span{Loc: loc, Mask: place(off, 0, size)})
					for _, index := range odd {
						footprint(t, by(3, i), file{3: index}, api.Span{Loc: loc, Mask: place(off, index, size)})
						footprint(t, by(0, i), file{0: index}, api.Span{Loc: loc, Mask: place(off, index, size)})
					}
				}
			}
		}
	}
}

func footprint(t *testing.T, i api.Ins, regs file, want api.Span) {
	t.Helper()
	if span, _, ok := alone(t, regs, i).Spot(0); span != want || !ok {
		t.Errorf("14.3: Spot of %+v with %v: %+v, %v, want %+v", i, regs, span, ok, want)
	}
}

// 14.3: the datum: of a store its low bytes, of an OpRmw the whole register, of
// a load none; what is no memory operation has no spot.
func TestData(t *testing.T) {
	for _, size := range sizes {
		for _, v := range odd {
			regs, mask := file{6: v}, place(0, 0, size)
			for _, k := range []struct {
				i    api.Ins
				want int
			}{
				{part(0, size, store(6, y)), low(v, size)},
				{marked(false, false, true, part(0, size, store(6, y))), low(v, size)},
				{part(0, size, put(y, v)), low(v, size)},
				{part(0, size, rmw(api.FnSwap, 0, 6, y)), v},
				{part(0, size, rmw(api.FnAdd, 6, 6, y)), v},
				{marked(true, false, true, part(0, size, rmw(api.FnAdd, 0, 6, y))), v},
				{part(0, size, load(6, y)), 0},
				{marked(true, false, false, part(0, size, load(6, y))), 0},
				{marked(false, true, false, part(0, size, load(6, y))), 0},
			} {
				tells(t, "14.3: the datum", alone(t, regs, k.i), 0, stood{ready: true, ins: k.i, regs: regs, spot: true, span: api.Span{Loc: y, Mask: mask}, datum: k.want})
			}
		}
	}
	for pred := 1; pred <= 3; pred++ {
		for succ := 1; succ <= 3; succ++ {
			tells(t, "14.3: a fence has no spot", alone(t, file{}, fence(pred, succ)), 0, stood{ready: true, ins: fence(pred, succ)})
		}
	}
	tells(t, "14.3: an OpIsb has no spot", alone(t, file{}, isb()), 0, stood{ready: true, ins: isb()})
}

// 14.3: of what is read the low bytes go to Dst, wherever the access lies; of
// what does not read nothing does.
func TestPass(t *testing.T) {
	regs := file{11, 12, 13, 14, 15, 16, 17, 18}
	for _, size := range sizes {
		off := offsets[size][len(offsets[size])-1]
		for _, old := range odd {
			for _, k := range []struct {
				i   api.Ins
				dst int // -1: none
			}{
				{load(0, x), 0}, {load(7, z), 7}, {by(2, load(2, y)), 2}, {marked(true, false, false, load(3, x)), 3}, {marked(false, true, false, load(3, x)), 3},
				{rmw(api.FnAdd, 1, 2, x), 1}, {rmw(api.FnSwap, 1, 2, x), 1}, {rmw(api.FnAdd, 4, 4, x), 4}, {by(5, rmw(api.FnSwap, 5, 5, x)), 5},
				{marked(true, false, true, rmw(api.FnSwap, 6, 0, z)), 6},
				{store(0, x), -1}, {put(x, 77), -1}, {marked(false, false, true, store(1, y)), -1},
			} {
				want := regs
				if k.dst >= 0 {
					want[k.dst] = low(old, size)
				}
				c := alone(t, regs, part(off, size, k.i))
				passes(t, c, 0, old)
				tells(t, "14.3: past its only one", c, 0, stood{at: 1, regs: want})
			}
		}
	}
	for _, i := range []api.Ins{fence(1, 1), fence(3, 3), isb()} {
		c := alone(t, regs, i, i)
		passes(t, c, 0, 5)
		tells(t, "14.3: past a fence, an OpIsb", c, 0, stood{at: 1, ready: true, ins: i, regs: regs})
		passes(t, c, 0, math.MinInt)
		tells(t, "14.3: past the second", c, 0, stood{at: 2, regs: regs})
	}
}

// 14.2, 14.3: what is read goes on at once to what hangs on it.
func TestPassGoesOn(t *testing.T) {
	c := alone(t, file{3: 1}, part(2, 2, load(0, x)), aluImm(api.FnAdd, 1, 0, 1), ifZero(0, 6), alu(api.FnSub, 2, 3, 1), by(1, part(0, 1, store(2, z))), isb(), move(4, 1))
	d := c.Copy()
	passes(t, c, 0, 0x30005)
	tells(t, "14.3: an address and a datum by what was read", c, 0,
		stood{at: 4, ready: true, ins: by(1, part(0, 1, store(2, z))), regs: file{5, 6, -5, 1}, spot: true, span: api.Span{Loc: z, Mask: 64}, datum: 251})
	passes(t, c, 0, 0, 0)
	tells(t, "14.3: on to the end", c, 0, stood{at: 7, regs: file{5, 6, -5, 1, 6}})
	passes(t, d, 0, 1<<16)
	tells(t, "14.3: a branch by what was read, of which the low bytes alone count", d, 0, stood{at: 7, regs: file{0, 1, 0, 1, 1}})
}

// 14.3: threads go each by itself.
func TestThreadsGoBySelf(t *testing.T) {
	codes := []code{{load(0, x), store(0, y)}, {load(0, y), store(0, z)}, {rmw(api.FnAdd, 0, 1, z), isb()}}
	c := core(t, codes, file{7: 1}, file{7: 2}, file{7: 3})
	for n, thread := range []int{1, 2, 0, 0, 2, 1} {
		var ahead [3]stood
		for k := range ahead {
			ahead[k] = told(c, k)
		}
		passes(t, c, thread, 100+n)
		for k := range ahead {
			if k != thread {
				tells(t, "14.3: another thread passed", c, k, ahead[k])
			}
		}
		if c.At(thread) != ahead[thread].at+1 {
			t.Errorf("14.3: thread %d stands at %d", thread, c.At(thread))
		}
	}
	for thread, v := range []int{102, 100, 101} {
		tells(t, "14.3: at the end", c, thread, stood{at: 2, regs: file{v, 7: thread + 1}})
	}
}

// 14.3: threads and registers that there are not.
func TestWhatThereIsNot(t *testing.T) {
	regs := file{1, 2, 3, 4, 5, 6, 7, 8}
	c := core(t, []code{{load(0, x)}, {load(1, y)}}, regs, regs, regs)
	mark := c.Mark()
	for _, n := range odd {
		if n < 0 || n > 1 {
			tells(t, "14.3: no such thread", c, n, stood{})
			if c.Pass(n, 5) {
				t.Errorf("14.3: Pass of thread %d is true", n)
			}
		}
		for thread := range 2 {
			if v := c.Reg(thread, n); (n < 0 || n > 7) && v != 0 {
				t.Errorf("14.3: Reg(%d, %d) = %d", thread, n, v)
			}
		}
	}
	if c.Mark() != mark || c.Threads() != 2 {
		t.Error("14.3: what there is not turned something")
	}
}

// R3: what is handed in stays as it was; what becomes of it later turns nothing.
func TestWhatIsHandedIn(t *testing.T) {
	fresh := func() (api.Test, []code) {
		behind := put(z, 4)
		room := make([]code, 2, 3)
		room[0] = append(make(code, 0, 8), load(0, x), aluImm(api.FnAdd, 1, 0, 1), store(1, y), behind)[:3]
		room[1] = append(make(code, 0, 8), ifZero(1, 2), isb(), fence(3, 3), behind)[:3]
		room[:3][2] = code{behind}
		return test(room, file{7: 7}, file{7: 8}), room[:3]
	}
	kept, _ := fresh()
	handed, room := fresh()
	c, want := mach.NewCore(handed), mach.NewCore(kept)
	behind := put(z, 4)
	run := func(c *mach.Core) (all []stood) {
		for _, thread := range []int{0, 1, 0, 1, 0} {
			all = append(all, told(c, 0), told(c, 1))
			c.Pass(thread, 9)
		}
		return append(all, told(c, 0), told(c, 1))
	}
	first := run(c.Copy())
	for thread, n := range []int{3, 3} {
		for at, i := range room[thread][:n] {
			if i != kept.Code[thread][at] {
				t.Errorf("R3: instruction %d of thread %d was turned", at, thread)
			}
		}
		if room[thread][:4][3] != behind {
			t.Errorf("R3: what lies behind the code of thread %d was turned", thread)
		}
	}
	if len(room[2]) != 1 || room[2][0] != behind {
		t.Error("R3: what lies behind the codes was turned")
	}
	for thread := range room {
		clear(room[thread][:cap(room[thread])])
		room[thread] = nil
	}
	handed.Regs = [3]file{}
	for n, s := range run(c) {
		if s != first[n] {
			t.Errorf("R3: a test that was turned behind NewCore turns the core: number %d: %+v, want %+v", n, s, first[n])
		}
	}
	for n, s := range run(want) {
		if s != first[n] {
			t.Errorf("R9: of another core of such a test: number %d: %+v, want %+v", n, s, first[n])
		}
	}
}
