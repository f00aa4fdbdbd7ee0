package mach_test

import (
	"math"
	"slices"
	"testing"

	"belated/api"
	"belated/mach"
)

// any draws an instruction of any fields.
func (d *dice) any() api.Ins {
	n := func() int { return d.among([]int{-1, 0, 1, 2, 3, 5, 7, 8, 9, 256, math.MinInt, math.MaxInt}) }
	return api.Ins{Op: d.below(12) - 1, Dst: n(), A: n(), B: n(), Imm: n(), Loc: n(), Off: n(), Index: n(), Size: n(), Fn: n(),
		Acq: d.flag(), Weak: d.flag(), Rel: d.flag(), Pred: n(), Succ: n(), To: n(), Zero: d.flag()}
}

// turned is a right instruction with one of its fields turned.
func (d *dice) turned(i api.Ins) api.Ins {
	n := d.among(odd)
	fields := []*int{&i.Op, &i.Dst, &i.A, &i.B, &i.Imm, &i.Loc, &i.Off, &i.Index, &i.Size, &i.Fn, &i.Pred, &i.Succ, &i.To}
	*fields[d.below(len(fields))] = n
	return i
}

// poke asks a core for all that it tells, and passes all that it can.
func poke(t *testing.T, c *mach.Core) {
	t.Helper()
	twin := c.Copy()
	if twin.Mark() != c.Mark() {
		t.Errorf("14.3: a Copy has the Mark %q, want %q", twin.Mark(), c.Mark())
	}
	for _, thread := range append([]int{0, 1, 2}, odd...) {
		told(c, thread)
		for _, reg := range odd {
			c.Reg(thread, reg)
		}
		for n := 0; c.Pass(thread, math.MinInt+n); n++ {
			told(c, thread)
			c.Mark()
			if n > 1000 {
				t.Fatal("R8: a thread has no end")
			}
		}
	}
}

// R6, R8: of tests that are not right nothing is said but that nothing panics,
// and all ends.
func TestAnyTest(t *testing.T) {
	d := dice(146)
	poke(t, new(mach.Core))
	poke(t, mach.NewCore(api.Test{}))
	poke(t, mach.NewCore(api.Test{Code: make([]code, 100)}))
	poke(t, mach.NewCore(test([]code{slices.Repeat(code{isb()}, 100000)})))
	poke(t, mach.NewCore(test([]code{slices.Repeat(code{load(0, x)}, api.MaxCode)})))
	poke(t, mach.NewCore(test([]code{{ifZero(0, 0)}})))
	poke(t, mach.NewCore(test([]code{{isb(), isb(), ifZero(0, 0)}})))
	poke(t, mach.NewCore(test([]code{{ifZero(0, 9)}})))
	poke(t, mach.NewCore(test([]code{{part(0, 3, load(0, x))}, {load(9, x)}, {by(8, store(0, x))}})))
	for range 5000 {
		codes := make([]code, d.below(5))
		for thread := range codes {
			for range d.below(10) {
				codes[thread] = append(codes[thread], d.any())
			}
		}
		poke(t, mach.NewCore(test(codes, file{d.value(), d.value()})))
		x := d.right()
		for _, c := range x.Code {
			for at := range c {
				if d.below(len(c)) == 0 {
					c[at] = d.turned(c[at])
				}
			}
		}
		poke(t, mach.NewCore(x))
	}
}

// R6: what no sentence of Core speaks of turns nothing: the rest of a test may
// be as it likes.
func TestTheRestOfATest(t *testing.T) {
	x := test([]code{{load(0, x), store(0, y)}}, file{1: 1})
	want := mach.NewCore(x)
	x.Arch, x.Name, x.Quant, x.Cond, x.Init = -7, "", 99, nil, [3]int{5, 6, 7}
	x.Regs[1], x.Regs[2] = file{8, 8}, file{9, 9}
	c := mach.NewCore(x)
	for range 3 {
		tells(t, "14.2: of the same code", c, 0, told(want, 0))
		tells(t, "14.2: a thread that there is not", c, 1, stood{})
		same(t, "of the same code", c, want)
		c.Pass(0, 5)
		want.Pass(0, 5)
	}
}
