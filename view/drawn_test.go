package view_test

import (
	"slices"
	"testing"

	"belated/api"
	"belated/arm"
	"belated/cand"
	"belated/litmus"
	"belated/riscv"
	"belated/uir"
	"belated/view"
)

// ins draws an instruction of a Plain test, at a place of n. Few registers are
// used, so that they hang on one another.
func (d *dice) ins(at, n int) api.Ins {
	reg := func() int { return d.below(4) }
	switch d.below(16) {
	case 0:
		return konst(reg(), d.value())
	case 1:
		return move(reg(), reg())
	case 2:
		return alu(1+d.below(5), reg(), reg(), reg())
	case 3:
		return aluImm(1+d.below(5), reg(), reg(), d.value())
	case 4, 5:
		i := unless(reg(), at+1+d.below(n-at))
		i.Zero = d.flag()
		return i
	case 6:
		return isb()
	case 7:
		return fence(1+d.below(3), 1+d.below(3))
	}
	return d.op(d.below(api.MaxLocs), reg(), reg(), reg())
}

// op draws a memory operation of a location, with these registers.
func (d *dice) op(loc, dst, a, index int) api.Ins {
	i := load(dst, loc)
	switch d.below(8) {
	case 0, 1, 2:
	case 3:
		n := d.below(2)
		i = marked(n == 0, n == 1, false, i)
	case 4, 5:
		i = store(a, loc)
	case 6:
		i = put(loc, d.value())
	case 7:
		i = rel(store(a, loc))
	}
	if d.below(3) == 0 {
		i.Index = index
	}
	return i
}

// value draws a number, 0 more often than others: branches ask for it.
func (d *dice) value() int {
	if d.below(3) == 0 {
		return 0
	}
	return d.among(odd)
}

// isOf is whether an architecture's language has an instruction; of 0 any has.
func isOf(arch int, i api.Ins) bool {
	label := ""
	if i.Op == api.OpBranch {
		label = "L"
	}
	e := api.OK
	switch arch {
	case api.RISCV:
		_, e = riscv.Print(i, label)
	case api.ARM:
		_, e = arm.Print(i, label)
	}
	return e == api.OK
}

// filled is a test of so many threads, its codes drawn of an architecture's
// instructions, with what is held at first.
func (d *dice) filled(threads, arch int) api.Test {
	x := on(d.among([]int{api.RISCV, api.ARM}), make([]code, threads)...)
	for thread := range x.Code {
		n := d.below(api.MaxCode + 1)
		for at := 0; at < n; {
			if i := d.ins(at, n); isOf(arch, i) {
				x.Code[thread] = append(x.Code[thread], i)
				at++
			}
		}
		for reg := range x.Regs[thread] {
			x.Regs[thread][reg] = d.value()
		}
	}
	for loc := range x.Init {
		x.Init[loc] = d.value()
	}
	return x
}

// right draws a Plain test that is right.
func (d *dice) right() api.Test {
	arch := d.among([]int{api.RISCV, api.ARM})
	for {
		x := d.filled(1+d.below(api.MaxThreads), arch)
		x.Arch = arch
		if litmus.Check(x) == api.OK {
			return x
		}
	}
}

// mixed draws a Plain test whose codes are right; each of their instructions is
// one of some architecture.
func (d *dice) mixed() api.Test {
	for {
		x := d.filled(1+d.below(api.MaxThreads), 0)
		if _, _, e := uir.Check(x.Code...); e == api.OK {
			return x
		}
	}
}

// knot draws a Plain test of two threads or three in which much is written, and
// what is read hangs together: so more is refused.
func (d *dice) knot() api.Test {
	x := on(d.among([]int{api.RISCV, api.ARM}), make([]code, 2+d.below(2))...)
	first, left := d.below(2), api.MaxOps
	for thread := range x.Code {
		n := min(left, []int{4, 2, 3}[(thread+first)%3])
		left -= n
		x.Code[thread] = d.tied(n, 2+d.below(2))
		for reg := 4; reg < api.MaxRegs; reg++ {
			x.Regs[thread][reg] = 8*thread + reg
		}
	}
	if _, _, e := uir.Check(x.Code...); e != api.OK {
		return d.knot()
	}
	return x
}

// tied draws a code of so many memory operations, between which there is now and
// then what orders them.
func (d *dice) tied(ops, locs int) (c code) {
	last := 7
	for n := range ops {
		if d.flag() && len(c) < api.MaxCode-(ops-n) {
			c = append(c, []api.Ins{unless(last, len(c)+1), isb(), fence(1+d.below(3), 1+d.below(3)), fence(1+d.below(3), 1+d.below(3))}[d.below(4)])
		}
		i := d.op(d.below(locs), n, d.among([]int{last, 4 + n}), last)
		if i.Op == api.OpLoad {
			last = n
		}
		c = append(c, i)
	}
	return c
}

// ring draws a Plain test whose threads go each from one location to the next
// thread's: what is weak shows there.
func (d *dice) ring() api.Test {
	n := 2 + d.below(2)
	x := on(d.among([]int{api.RISCV, api.ARM}), make([]code, n)...)
	for thread := range n {
		x.Code[thread] = d.bent(thread, (thread+1)%n, n == 2 && d.flag())
	}
	return x
}

// bent draws a code that goes from a location to another one; it may read back
// what it wrote at the first.
func (d *dice) bent(from, to int, back bool) code {
	c := code{d.op(from, 0, 7, 5)}
	if back {
		c = code{store(7, from), load(0, from)}
	}
	at := len(c)
	c = append(c, []code{nil, nil, {fence(1+d.below(3), 1+d.below(3))}, {ifZero(0, at+1)}, {unless(0, at+1), isb()}, {alu(api.FnXor, 0, 0, 0)}, {konst(0, 1)}}[d.below(7)]...)
	return append(c, d.op(to, 1, d.among([]int{0, 6}), d.among([]int{0, 0, 5})))
}

// drawn is the n-th of many Plain tests, of each kind some.
func (d *dice) drawn(n int) api.Test {
	switch n % 4 {
	case 0:
		return d.right()
	case 1:
		return d.mixed()
	case 2:
		return d.ring()
	}
	return d.knot()
}

// met counts what Runs came to.
type met struct {
	yes, no     int
	ops         [api.OpBranch + 1]int // that were passed
	load, store [howMany]int          // that were refused by one part alone
	lent        int                   // loads whose view is below their source's time
}

// see counts the walks of a Run, as far as each goes.
func (c *met) see(x api.Test, r api.Run) {
	for thread := range x.Code {
		p := walkOf(x, r, thread)
		for place := range p.path {
			i := p.ins(place)
			by, is := p.refuses(place)
			if is {
				c.refused(i.Op, by)
				break
			}
			c.ops[i.Op]++
			if i.Op == api.OpLoad && p.after(place) < p.times[place] {
				c.lent++
			}
		}
	}
}

func (c *met) refused(op int, by [howMany]bool) {
	for n := range by {
		only := [howMany]bool{}
		only[n] = true
		if by == only && op == api.OpLoad {
			c.load[n]++
		} else if by == only {
			c.store[n]++
		}
	}
}

// judged is whether Accepts tells what the model does, and counts that.
func (c *met) judged(t *testing.T, x api.Test, r api.Run) {
	t.Helper()
	want := accepts(x, r)
	if got := view.Accepts(x, r); got != want {
		t.Fatalf("18.2: Accepts is %v, of the times %v: %+v", got, timesOf(r), x)
	}
	if want {
		c.yes++
	} else {
		c.no++
	}
	c.see(x, r)
}

// thin is a list of counts of which some are below what they should be.
func thin(t *testing.T, what string, counts []int, least int, of ...int) {
	t.Helper()
	for _, n := range of {
		if counts[n] < least {
			t.Errorf("drawn too thin: %s: %d of number %d", what, counts[n], n)
		}
	}
}

// 18.2: of all Runs of many tests Accepts tells what the model does.
func TestManyRuns(t *testing.T) {
	t.Parallel()
	d := dice(18)
	c := met{}
	threads := [api.MaxThreads + 1]int{}
	for n := range 4000 {
		x := d.drawn(n)
		threads[len(x.Code)]++
		runs := cand.Runs(x)
		if len(runs) == 0 {
			t.Fatalf("the test itself is wrong: %+v", x)
		}
		for _, r := range runs {
			c.judged(t, x, r)
		}
	}
	thin(t, "passed", c.ops[:], 2000, api.OpConst, api.OpMove, api.OpAlu, api.OpLoad, api.OpStore, api.OpFence, api.OpIsb, api.OpBranch)
	thin(t, "loads", c.load[:], 50, byNewRead, byRelease, byCoherence)
	thin(t, "stores", c.store[:], 50, byNewWrite, byControl, byOldRead, byOldWrite)
	if min(c.yes, c.no, c.lent) < 2000 || slices.Min(threads[1:]) < 500 {
		t.Errorf("drawn too thin: %d accepted, %d not, %d forwarded, %v threads", c.yes, c.no, c.lent, threads)
	}
}

// other is a Run with its writes in any row, and its reads from any of them.
func (d *dice) other(r api.Run) api.Run {
	r.Order, r.Sources = slices.Clone(r.Order), slices.Clone(r.Sources)
	for n := range r.Order {
		m := n + d.below(len(r.Order)-n)
		r.Order[n], r.Order[m] = r.Order[m], r.Order[n]
	}
	from := map[int]int{}
	for n, e := range r.Events {
		from[n] = -1
		for _, w := range r.Order {
			if r.Events[w].Span.Loc == e.Span.Loc && d.flag() {
				from[n] = w
			}
		}
	}
	for n, s := range r.Sources {
		r.Sources[n].From = from[s.Event]
	}
	return r
}

// 18.2: what it says of a walk, held against times that no candidate has: 11.1
// leaves some parts of a join nothing that they alone decide.
func TestNoCandidates(t *testing.T) {
	t.Parallel()
	d := dice(181)
	c := met{}
	for n := range 4000 {
		x := d.drawn(n)
		runs := cand.Runs(x)
		for range 15 {
			c.judged(t, x, d.other(runs[d.below(len(runs))]))
		}
	}
	thin(t, "loads", c.load[:], 15, byAddress, byNewRead, byRelease, byCoherence)
	thin(t, "stores", c.store[:], 15, byAddress, byDatum, byNewWrite, byControl, byOldRead, byOldWrite, byCoherence)
}
