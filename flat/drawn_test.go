package flat_test

import (
	"maps"
	"slices"
	"testing"

	"belated/api"
	"belated/arm"
	"belated/flat"
	"belated/litmus"
	"belated/riscv"
	"belated/uir"
	"belated/x86"
)

// ins draws an instruction, at a place of n. Few registers are used, so that
// they hang on one another.
func (d *dice) ins(at, n int) api.Ins {
	imm := d.value()
	reg := func() int { return d.below(4) }
	switch d.below(16) {
	case 0:
		return konst(reg(), imm)
	case 1:
		return move(reg(), reg())
	case 2:
		return alu(1+d.below(5), reg(), reg(), reg())
	case 3:
		return aluImm(1+d.below(5), reg(), reg(), imm)
	case 4, 5:
		i := unless(reg(), at+1+d.below(n-at))
		i.Zero = d.flag()
		return i
	case 6:
		return isb()
	case 7:
		return fence(1+d.below(3), 1+d.below(3))
	}
	return d.op()
}

// op draws a memory operation.
func (d *dice) op() api.Ins {
	size := d.among(sizes)
	reg := func() int { return d.below(4) }
	touch := func(i api.Ins) api.Ins {
		i.Loc, i.Size, i.Off, i.Index = d.among([]int{0, 0, 1, 1, 2}), size, d.among(offsets[size]), -1
		if d.below(3) == 0 {
			i.Index = reg()
		}
		return i
	}
	switch d.below(8) {
	case 0, 1, 2:
		return touch(load(reg(), 0))
	case 3:
		acq := d.flag()
		return marked(acq, !acq, false, touch(load(reg(), 0)))
	case 4, 5:
		return marked(false, false, d.below(3) == 0, touch(store(reg(), 0)))
	case 6:
		return marked(false, false, d.below(3) == 0, touch(put(0, d.value())))
	}
	fn := d.among([]int{api.FnAdd, api.FnSwap})
	return marked(d.flag(), false, d.flag(), touch(rmw(fn, reg(), reg(), 0)))
}

// value draws a number, 0 more often than others: branches ask for it.
func (d *dice) value() int {
	if d.below(3) == 0 {
		return 0
	}
	return d.among(odd)
}

// isOf is whether an architecture's language has an instruction; of 0 any has.
func isOf(arch int, i api.Ins) bool {
	label := ""
	if i.Op == api.OpBranch {
		label = "L"
	}
	e := api.OK
	switch arch {
	case api.X86:
		_, e = x86.Print(i, label)
	case api.RISCV:
		_, e = riscv.Print(i, label)
	case api.ARM:
		_, e = arm.Print(i, label)
	}
	return e == api.OK
}

// filled is a test with codes that are drawn of an architecture, of so many
// instructions at most, and with what is held at first.
func (d *dice) filled(x api.Test, arch, most int) api.Test {
	for thread := range x.Code {
		n := d.below(most + 1)
		for at := 0; at < n; {
			if i := d.ins(at, n); isOf(arch, i) {
				x.Code[thread] = append(x.Code[thread], i)
				at++
			}
		}
		for reg := range x.Regs[thread] {
			x.Regs[thread][reg] = d.value()
		}
	}
	for loc := range x.Init {
		x.Init[loc] = d.value()
	}
	return x
}

// right draws a right test, with codes of so many instructions at most.
func (d *dice) right(most int) api.Test {
	arch := d.among([]int{api.X86, api.RISCV, api.RISCV, api.ARM, api.ARM, api.ARM})
	for {
		x := test(make([]code, 1+d.below(api.MaxThreads))...)
		x.Arch = arch
		if x = d.filled(x, arch, most); litmus.Check(x) == api.OK {
			return x
		}
	}
}

// mixed draws a test whose codes are right; each of their instructions is one of
// some architecture.
func (d *dice) mixed(most int) api.Test {
	for {
		x := d.filled(test(make([]code, 1+d.below(api.MaxThreads))...), 0, most)
		if _, _, e := uir.Check(x.Code...); e == api.OK {
			return x
		}
	}
}

// knot draws a test of two threads or three whose codes are right. Few bytes are
// touched, each read has a register of its own, by which now and then an address,
// a datum or a branch hangs on it: so more waits, and more goes wrong.
func (d *dice) knot() api.Test {
	x := test(make([]code, 2+d.below(2))...)
	locs := 1 + d.below(2)
	left := api.MaxOps
	for thread := range x.Code {
		ops := min(left, []int{3, 4, 2}[(thread+d.below(2))%3])
		left -= ops
		x.Code[thread] = d.tied(ops, locs)
		for reg := 4; reg < api.MaxRegs; reg++ {
			x.Regs[thread][reg] = 0x0101010101010101 * (8*thread + reg)
		}
	}
	if _, _, e := uir.Check(x.Code...); e != api.OK {
		return d.knot()
	}
	return x
}

// tied draws a code of so many memory operations.
func (d *dice) tied(ops, locs int) (c code) {
	last := -1
	for n := range ops {
		if d.below(4) == 0 {
			i := unless(4, len(c)+1)
			if last >= 0 {
				i.A = last
			}
			i.Zero = d.flag()
			c = append(c, []api.Ins{i, i, isb(), isb(), fence(1+d.below(3), 1+d.below(3))}[d.below(5)])
		}
		i := d.near(n, last, d.below(locs))
		if i.Op != api.OpStore {
			last = i.Dst
		}
		c = append(c, i)
	}
	for at, i := range c {
		if i.Op == api.OpBranch {
			c[at].To = at + 1 + d.below(len(c)-at)
		}
	}
	return c
}

// near draws a memory operation, that hangs on the last read now and then.
func (d *dice) near(n, last, loc int) api.Ins {
	i := load(n, loc)
	a := 4 + n
	if last >= 0 && d.below(4) == 0 {
		a = last
	}
	switch d.below(7) {
	case 0, 1, 2:
		i = marked(false, false, d.below(6) == 0, store(a, loc))
	case 3:
		i = marked(d.below(4) == 0, false, d.below(4) == 0, rmw(d.among([]int{api.FnAdd, api.FnSwap}), n, a, loc))
	default:
		if d.below(5) == 0 {
			i = marked(n%2 == 0, n%2 == 1, false, i)
		}
	}
	size := d.among([]int{1, 2, 2, 4, 8})
	i = part(d.below(2)*size%8, size, i)
	if last >= 0 && d.below(3) == 0 {
		i.Index = last
	}
	return i
}

// tangle draws a test of two threads whose codes are right: where some operations
// of the first one lie is known late, what others there read is turned by the
// second one.
func (d *dice) tangle() api.Test {
	size := d.among(sizes)
	c := code{part(0, 1, load(0, y))}
	for n := range 3 + d.below(2) {
		off := d.among(offsets[size])
		i := []api.Ins{load(1+n, x), load(1+n, x), load(1+n, x), put(x, 1+n), store(4+n, x), swap(1+n, 4+n, x)}[d.below(6)]
		i = part(off, size, i)
		if i.Op != api.OpLoad && d.below(3) > 0 || d.below(5) == 0 {
			i = by(0, i)
		}
		if d.below(5) == 0 {
			c = append(c, isb())
		}
		c = append(c, i)
	}
	writer := code{put(x, -1)}
	if len(c) < 6 && d.flag() {
		writer = append(writer, part(d.among(offsets[size]), size, put(d.below(2), 7)))
	}
	t := from(test(c[:min(len(c), api.MaxCode)], writer), locs{d.value(), d.below(8)})
	if uir.Ops(slices.Concat(t.Code...)...) > api.MaxOps {
		t.Code[1] = nil
	}
	return t
}

// drawn is the n-th of many tests, of each kind some.
func (d *dice) drawn(n int) api.Test {
	switch n % 5 {
	case 0:
		return d.right(api.MaxCode)
	case 1:
		return d.mixed(api.MaxCode)
	case 2:
		return d.tangle()
	}
	return d.knot()
}

// met counts what drawn walks came to.
type met struct {
	threads, ways      [4]int
	ops, fns           [api.OpBranch + 1]int
	sizes              [9]int
	alone              [6]int // by rule of 17.2: operations that wait by it alone
	done, handed, both int
}

// see counts what there is in a state.
func (c *met) see(p *plain) {
	for thread := range p.t.Code {
		for _, s := range p.ops(thread) {
			if p.performed(s) {
				continue
			}
			for rule := range c.alone {
				if p.broken(s) == 1<<rule {
					c.alone[rule]++
				}
			}
		}
	}
	for way := range c.ways {
		if p.dead() == 1<<way {
			c.ways[way]++
		}
	}
	if p.done() {
		c.done++
	}
}

// performs counts an operation ahead of its being performed.
func (c *met) performs(p *plain, s spot) {
	i := p.ins(s)
	c.ops[i.Op]++
	c.fns[i.Fn]++
	c.sizes[i.Size]++
	if !reads(i) {
		return
	}
	own, other, first := 0, 0, 0
	q := plain{p.t, p.paths, slices.Clone(p.row), maps.Clone(p.from)}
	q.perform(s)
	for b, w := range q.from {
		switch {
		case b.spot != s:
		case w == initial:
			first++
		case w.thread != s.thread:
			other++
		case !p.performed(w):
			own++
		}
	}
	if own > 0 {
		c.handed++
	}
	if own > 0 && other > 0 && first > 0 {
		c.both++
	}
}

// move draws one of some moves; one of a late place more often than others, as
// then more goes out of order.
func (d *dice) move(can []api.Move) api.Move {
	next := can[d.below(len(can))]
	for range 2 {
		if other := can[d.below(len(can))]; other.N > next.N {
			next = other
		}
	}
	return next
}

// 17.1 to 17.4: at each state of many walks a machine tells what the model does;
// what there is not it does not do. There is a move just where it is neither dead
// nor Done.
func TestManyWalks(t *testing.T) {
	t.Parallel()
	d := dice(17)
	c := met{}
	for n := range 12000 {
		x := d.drawn(n)
		m := flat.New(x)
		var gone []api.Move
		for {
			p := behind(x, gone)
			want := p.moves()
			moves(t, "a drawn test", m, want...)
			holds(t, "a drawn test", m, p.state())
			if (len(want) == 0) != (m.Done() || m.Dead()) {
				t.Errorf("17.5: %d moves, Done %v, Dead %v", len(want), m.Done(), m.Dead())
			}
			if d.below(4) == 0 {
				stuck(t, m)
			}
			if t.Failed() {
				t.Fatalf("behind the moves %v: %+v", gone, x)
			}
			c.see(p)
			if len(want) == 0 {
				break
			}
			next := d.move(want)
			if next.Kind == api.MovePerform {
				c.performs(p, spot{next.Thread, next.N})
			}
			goes(t, m, next)
			gone = append(gone, next)
		}
		c.threads[len(x.Code)]++
	}
	for op, n := range c.ops {
		if is := op >= api.OpLoad && op <= api.OpRmw; is && n < 2000 || !is && n > 0 {
			t.Errorf("drawn too thin: %d of operation %d were performed", n, op)
		}
	}
	if slices.Min(c.threads[1:]) < 1000 || slices.Min(c.ways[:3]) < 50 || slices.Min(c.alone[:]) < 500 || c.fns[api.FnAdd] < 500 || c.fns[api.FnSwap] < 500 || c.done < 3000 || c.handed < 500 || c.both < 5 {
		t.Errorf("drawn too thin: %+v", c)
	}
	for _, size := range sizes {
		if c.sizes[size] < 1000 {
			t.Errorf("drawn too thin: %d of size %d", c.sizes[size], size)
		}
	}
}

// shifted is a test with a branch ahead of a thread's code, past one instruction:
// each path that it goes with all places moved by one, all indices by two. Told is
// how many paths there were, which are ahead of these now; 0, if there is no room.
func shifted(x api.Test, thread int) (api.Test, int) {
	first := ifZero(5, 2)
	first.Zero = x.Regs[thread][5] == 0
	c := code{first, isb()}
	for _, i := range x.Code[thread] {
		if i.Op == api.OpBranch {
			i.To += 2
		}
		c = append(c, i)
	}
	y := x
	y.Code = slices.Clone(x.Code)
	y.Code[thread] = c
	if _, _, e := uir.Check(y.Code...); e != api.OK {
		return x, 0
	}
	return y, len(pathsOf(x.Code[thread]))
}

// placed is a test, the first path of its thread 0 that is meant, and by how much
// the places on it are moved.
type placed struct {
	api.Test
	first, by int
}

// op is the move that performs what was at a place of thread 0.
func (p placed) op(place int) api.Move { return at(0, place+2*p.by, place+p.by) }

// may is what was at the places of thread 0 that may be performed.
func (p placed) may(m *flat.Machine) []int {
	var out []int
	for _, move := range m.Moves() {
		if move.Thread == 0 && move.Kind == api.MovePerform {
			out = append(out, move.N-p.by)
		}
	}
	return out
}

// nearAndFar is a test, and the same with thread 0 shifted, if there is room.
func nearAndFar(x api.Test) []placed {
	if y, paths := shifted(x, 0); paths > 0 {
		return []placed{{Test: x}, {y, paths, 1}}
	}
	return []placed{{Test: x}}
}

// 17.1 to 17.4: places count, not indices: behind a branch that passes over an
// instruction all goes as it did.
func TestShifted(t *testing.T) {
	t.Parallel()
	d := dice(170)
	done, dead := 0, 0
	for n := range 6000 {
		x := d.drawn(n)
		thread := d.below(len(x.Code))
		y, paths := shifted(x, thread)
		if paths == 0 {
			continue
		}
		there := func(can []api.Move) (out []api.Move) {
			for _, move := range can {
				if move.Thread == thread && move.Kind == api.MovePath {
					move.N += paths
				} else if move.Thread == thread {
					move.At, move.N = move.At+2, move.N+1
				}
				out = append(out, move)
			}
			return out
		}
		m, k := flat.New(x), flat.New(y)
		for {
			can := m.Moves()
			got := slices.DeleteFunc(k.Moves(), func(o api.Move) bool {
				return o.Thread == thread && o.Kind == api.MovePath && o.N < paths
			})
			if !slices.Equal(got, there(can)) || told(m) != told(k) {
				t.Fatalf("17.4: Moves %v, Dead %v, shifted %v, %v: %+v", can, m.Dead(), got, k.Dead(), x)
			}
			if len(can) == 0 {
				break
			}
			next := d.move(can)
			goes(t, m, next)
			goes(t, k, there([]api.Move{next})...)
		}
		if m.Done() {
			done++
		} else {
			dead++
		}
	}
	if done < 1000 || dead < 300 {
		t.Errorf("drawn too thin: %d are Done, %d dead", done, dead)
	}
}
