package model_test

import (
	"testing"

	"belated/api"
	"belated/litmus"
)

// dice draws the same numbers at each run.
type dice uint64

func (d *dice) below(n int) int {
	*d = *d*6364136223846793005 + 1442695040888963407
	return int(uint64(*d)>>33) % n
}

func (d *dice) among(l []int) int { return l[d.below(len(l))] }

func (d *dice) flag() bool { return d.below(2) == 0 }

// between draws an instruction that is no memory operation, as an architecture
// has it. Few registers are used, so that they hang on one another.
func (d *dice) between(arch int) api.Ins {
	a, b, dst := d.below(3), d.below(3), d.below(3)
	if arch == api.X86 {
		a = dst
	}
	switch d.below(11) {
	case 0:
		return konst(dst, d.below(4))
	case 1:
		return move(dst, b)
	case 2:
		return alu(1+d.below(5), dst, a, b)
	case 3:
		return xor(dst, a)
	case 4:
		return aluImm(1+d.below(5), dst, a, d.below(4))
	case 5, 6, 7:
		return d.fence(arch)
	case 8:
		if arch == api.ARM {
			return isb()
		}
	}
	i := unless(b, 0)
	i.Zero = d.flag()
	return i
}

func (d *dice) fence(arch int) api.Ins {
	switch arch {
	case api.X86:
		return full
	case api.ARM:
		return []api.Ins{full, fence(1, 3), fence(2, 2)}[d.below(3)]
	}
	return fence(1+d.below(3), 1+d.below(3))
}

// op draws a memory operation, as an architecture has it; few locations are
// used, so that they meet.
func (d *dice) op(arch, locs int) api.Ins {
	a, dst, loc := d.below(3), d.below(3), d.below(locs)
	switch d.below(10) {
	case 0, 1, 2, 3:
		i := d.access(load(dst, loc))
		if arch == api.ARM {
			i.Acq = d.below(4) == 0
			i.Weak = !i.Acq && d.below(4) == 0
		}
		return i
	case 4, 5, 6, 7:
		i := d.access(store(d.among([]int{a, 6, 7}), loc))
		i.Rel = arch == api.ARM && d.below(3) == 0
		return i
	}
	i := d.access(rmw(d.among([]int{api.FnAdd, api.FnSwap}), dst, a, loc))
	i.Acq, i.Rel = d.flag(), d.flag()
	if arch == api.X86 {
		i.A, i.Acq, i.Rel = dst, true, true
	}
	return i
}

// access draws where an access lies.
func (d *dice) access(i api.Ins) api.Ins {
	i.Size = d.among([]int{8, 8, 8, 1, 2, 4})
	i.Off = d.below(8/i.Size) * i.Size
	if d.below(3) == 0 {
		i.Index = d.below(3)
	}
	return i
}

// test draws a right test of so many memory operations.
func (d *dice) test(arch, ops int) api.Test {
	for {
		codes := make([]code, 1+d.below(api.MaxThreads))
		locs := 1 + d.below(2)
		for range ops {
			thread := d.below(len(codes))
			for d.below(5) < 2 {
				codes[thread] = append(codes[thread], d.between(arch))
			}
			codes[thread] = append(codes[thread], d.op(arch, locs))
		}
		for _, c := range codes {
			for at := range c {
				if c[at].Op == api.OpBranch {
					c[at].To = at + 1 + d.below(len(c)-at)
				}
			}
		}
		if x := d.filled(on(arch, codes...)); litmus.Check(x) == api.OK {
			return x
		}
	}
}

// filled draws what a test's locations and registers hold at first.
func (d *dice) filled(test api.Test) api.Test {
	test.Init = [3]int{d.among([]int{0, 0, 1, -1, 0x0807060504030201}), d.among([]int{0, 0, 2, 0x1817161514131211}), 3}
	for thread := range test.Code {
		test.Regs[thread][0], test.Regs[thread][1] = d.below(3), d.below(9)
	}
	return test
}

// knot draws a right test of two or three threads in which each read has a
// register of its own, and what stands between two operations is a way to keep
// their order, or nothing: so what a model says shows more often. Most often a
// thread goes on to the location at which the next one begins.
func (d *dice) knot(arch, ops int) api.Test {
	for {
		codes := make([]code, 2+d.below(2))
		locs, sizes, ring := len(codes), d.below(4) == 0, d.below(4) > 0
		for k := range ops {
			thread, loc := d.below(len(codes)), d.below(locs)
			if ring {
				thread = k / 2 % len(codes)
				loc = (k + 1) / 2 % locs
			}
			i := d.tied(arch, k%5, loc)
			if sizes {
				i.Size = d.among([]int{8, 4, 4, 1})
				i.Off = d.below(min(2, 8/i.Size)) * i.Size
			}
			codes[thread] = append(codes[thread], d.link(arch, codes[thread], i)...)
		}
		if x := on(arch, codes...); litmus.Check(x) == api.OK {
			return x
		}
	}
}

// tied draws a memory operation; what it reads goes to that register.
func (d *dice) tied(arch, reg, loc int) api.Ins {
	i := load(reg, loc)
	switch d.below(9) {
	case 0, 1, 2, 3:
		i = store(6+d.below(2), loc)
		i.Rel = arch == api.ARM && d.below(4) == 0
	case 4:
		i = rmw(d.among([]int{api.FnAdd, api.FnSwap}), reg, 6+d.below(2), loc)
		i.Acq, i.Rel = d.flag(), d.flag()
		if arch == api.X86 {
			i.Dst, i.Acq, i.Rel = i.A, true, true
		}
	default:
		if arch == api.ARM {
			i.Acq = d.below(5) == 0
			i.Weak = !i.Acq && d.below(5) == 0
		}
	}
	return i
}

// link draws what stands ahead of an operation behind those of a code, and how
// it hangs on the last read there.
func (d *dice) link(arch int, c code, i api.Ins) code {
	last := -1
	for _, ahead := range c {
		if reads(ahead) {
			last = ahead.Dst
		}
	}
	way := d.below(10)
	if last < 0 && way > 5 {
		way = 0
	}
	switch way {
	case 4, 5:
		return code{d.fence(arch), i}
	case 6:
		return code{move(5, last), xor(5, 5), by(5, i)}
	case 7:
		if i.Op == api.OpStore {
			return code{move(5, last), aluImm(api.FnOr, 5, 5, 2), store(5, i.Loc)}
		}
	case 8:
		b := unless(last, len(c)+1)
		b.Zero = d.flag()
		return code{b, i}
	case 9:
		if arch == api.ARM {
			return code{ifZero(last, len(c)+1), isb(), i}
		}
	}
	return code{i}
}

// many hands out drawn tests of an architecture, the more the fewer operations
// they have.
func many(t *testing.T, seed, share, arch int, each func(x api.Test)) {
	t.Helper()
	d := dice(seed)
	for ops, n := range []int{10, 20, 100, 400, 1000, 800, 300} {
		for k := range (n + share - 1) / share {
			if k%2 == 0 {
				each(d.test(arch, ops))
			} else {
				each(d.knot(arch, ops))
			}
		}
	}
}
