package flat_test

import (
	"math"
	"slices"
	"testing"

	"belated/api"
	"belated/flat"
)

// poke asks a machine for all that it tells, and does all that it can.
func poke(t *testing.T, m *flat.Machine) {
	t.Helper()
	for n := 0; ; n++ {
		stuck(t, m)
		if other := twin(t, m); other.Key() != m.Key() || told(other) != told(m) || !slices.Equal(other.Moves(), m.Moves()) {
			t.Errorf("14.1: a Twin of %q is %q", m.Key(), other.Key())
		}
		can := m.Moves()
		if len(can) > 0 && (m.Done() || m.Dead()) {
			t.Errorf("17.4: Done is %v, Dead %v with the moves %v", m.Done(), m.Dead(), can)
		}
		if len(can) == 0 {
			return
		}
		goes(t, m, can[n%len(can)])
		if n > 1000 {
			t.Fatal("R8: a machine has no end")
		}
	}
}

// any draws an instruction of any fields.
func (d *dice) any() api.Ins {
	n := func() int { return d.among([]int{-1, 0, 1, 2, 3, 5, 7, 8, 9, 256, math.MinInt, math.MaxInt}) }
	return api.Ins{Op: d.below(12) - 1, Dst: n(), A: n(), B: n(), Imm: n(), Loc: n(), Off: n(), Index: n(), Size: n(), Fn: n(),
		Acq: d.flag(), Weak: d.flag(), Rel: d.flag(), Pred: n(), Succ: n(), To: n(), Zero: d.flag()}
}

// turned is an instruction with one of its fields turned.
func (d *dice) turned(i api.Ins) api.Ins {
	fields := []*int{&i.Op, &i.Dst, &i.A, &i.B, &i.Imm, &i.Loc, &i.Off, &i.Index, &i.Size, &i.Fn, &i.Pred, &i.Succ, &i.To}
	*fields[d.below(len(fields))] = d.among(odd)
	return i
}

// R6, R8: of tests that are not right nothing is said but that nothing panics,
// and all ends.
func TestAnyTest(t *testing.T) {
	t.Parallel()
	d := dice(273)
	for _, x := range []api.Test{
		{},
		{Code: make([]code, 1)},
		{Code: make([]code, 100), Init: locs{1, 2, 3}, Regs: [3]file{{1}, {2}, {3}}},
		test(slices.Repeat(code{isb()}, 100000)),
		test(slices.Repeat(code{unless(0, 9)}, 9)),
		test(slices.Repeat(code{load(0, x)}, api.MaxCode)),
		test(slices.Repeat(code{load(0, x)}, 4), slices.Repeat(code{load(0, x)}, 4)),
		test(code{ifZero(0, 0)}),
		test(code{isb(), isb(), ifZero(0, 0)}),
		test(code{ifZero(0, 9)}),
		test(code{ifZero(0, 4), ifZero(0, 4), ifZero(0, 4), ifZero(0, 4)}),
		test(code{part(0, 3, load(0, x))}, code{load(9, x)}, code{by(8, store(0, x))}),
		test(code{load(0, 3)}, code{put(-1, 1)}),
		test(code{rmw(api.FnXor, 0, 0, x)}),
		test(code{api.Ins{}}),
	} {
		poke(t, flat.New(x))
	}
	for n := range 4000 {
		x := test(make([]code, d.below(5))...)
		for thread := range x.Code {
			for range d.below(10) {
				x.Code[thread] = append(x.Code[thread], d.any())
			}
		}
		poke(t, flat.New(x))
		x = d.drawn(n)
		for _, c := range x.Code {
			for at := range c {
				if d.below(len(c)) == 0 {
					c[at] = d.turned(c[at])
				}
			}
		}
		poke(t, flat.New(x))
	}
}

// 17.1: the machine hangs on Init, Regs and the codes alone.
func TestTheRestOfATest(t *testing.T) {
	d := dice(278)
	for n := range 300 {
		x := d.drawn(n)
		m := flat.New(x)
		x.Arch, x.Name, x.Quant, x.Cond = d.among(odd), "", d.among(odd), nil
		for thread := len(x.Code); thread < api.MaxThreads; thread++ {
			x.Regs[thread] = file{8, 8}
		}
		n := flat.New(x)
		for {
			can := m.Moves()
			holds(t, "the rest of a test", n, told(m))
			moves(t, "the rest of a test", n, can...)
			if m.Key() != n.Key() {
				t.Errorf("14.1: the rest of a test: Keys %q and %q", m.Key(), n.Key())
			}
			if len(can) == 0 {
				break
			}
			next := d.move(can)
			goes(t, m, next)
			goes(t, n, next)
		}
	}
}
