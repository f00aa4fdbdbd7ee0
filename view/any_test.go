package view_test

import (
	"math"
	"slices"
	"testing"

	"belated/api"
	"belated/cand"
	"belated/view"
)

// any draws an instruction of any fields.
func (d *dice) any() api.Ins {
	n := func() int { return d.among([]int{-1, 0, 1, 2, 3, 5, 7, 8, 9, 256, math.MinInt, math.MaxInt}) }
	return api.Ins{Op: d.below(12) - 1, Dst: n(), A: n(), B: n(), Imm: n(), Loc: n(), Off: n(), Index: n(), Size: n(), Fn: n(),
		Acq: d.flag(), Weak: d.flag(), Rel: d.flag(), Pred: n(), Succ: n(), To: n(), Zero: d.flag()}
}

// turned is an instruction with one of its fields turned; its size is that of a
// Plain test's now and then.
func (d *dice) turned(i api.Ins) api.Ins {
	fields := []*int{&i.Op, &i.Dst, &i.A, &i.B, &i.Imm, &i.Loc, &i.Off, &i.Index, &i.Fn, &i.Pred, &i.Succ, &i.To, &i.Size}
	*fields[d.below(len(fields))] = d.among(odd)
	return i
}

// anyRun draws a Run of any fields.
func (d *dice) anyRun() (r api.Run) {
	n := func() int { return d.among([]int{-1, 0, 0, 1, 1, 2, 2, 3, 4, 8, 31, 32, math.MinInt, math.MaxInt}) }
	for thread := range r.Paths {
		r.Paths[thread] = d.among([]int{0, 0, 0, 0, 1, 2, 8, -1, math.MinInt, math.MaxInt})
	}
	for range d.below(12) {
		r.Events = append(r.Events, api.Event{Thread: n(), Pos: n(), At: n(), Op: n(), Span: api.Span{Loc: n(), Mask: n()}, Reads: d.flag(), Writes: d.flag()})
	}
	for range d.below(12) {
		r.Order = append(r.Order, n())
	}
	for range d.below(60) {
		r.Sources = append(r.Sources, api.Source{Event: n(), Byte: n(), From: n()})
	}
	return r
}

// asked asks all calls for a test, and for a Run with it.
func asked(x api.Test, r api.Run) {
	view.Plain(x)
	view.Accepts(x, r)
	view.Outcomes(x)
}

// R6, R8: of tests that are not right, and of Runs that are none of cand.Runs,
// nothing is said but that nothing panics, and all ends.
func TestAnything(t *testing.T) {
	t.Parallel()
	d := dice(184)
	for _, x := range []api.Test{
		{},
		on(api.ARM),
		on(api.ARM, make([]code, 1)...),
		on(api.ARM, make([]code, 100)...),
		on(api.RISCV, slices.Repeat(code{isb()}, 100000)),
		on(api.RISCV, slices.Repeat(code{unless(0, 9)}, 9)),
		on(api.RISCV, slices.Repeat(code{load(0, x)}, 7)),
		on(api.RISCV, slices.Repeat(code{load(0, x)}, 4), slices.Repeat(code{one(x)}, 4)),
		on(api.ARM, code{ifZero(0, 0)}),
		on(api.ARM, code{isb(), isb(), ifZero(0, 0)}),
		on(api.ARM, code{ifZero(0, 9)}),
		on(api.ARM, code{load(9, x)}, code{by(8, one(x))}, code{load(0, 3)}, code{put(-1, 1)}),
		on(api.ARM, code{move(0, 8)}, code{alu(api.FnAdd, 8, 0, 0)}, code{unless(-1, 1)}),
		on(api.ARM, code{api.Ins{}}),
	} {
		asked(x, api.Run{})
		for range 100 {
			asked(x, d.anyRun())
		}
	}
	for n := range 3000 {
		x := on(d.among([]int{api.RISCV, api.ARM}), make([]code, d.below(5))...)
		for thread := range x.Code {
			for range d.below(10) {
				x.Code[thread] = append(x.Code[thread], d.any())
			}
		}
		asked(x, d.anyRun())
		x = d.drawn(n)
		asked(x, d.anyRun())
		for _, r := range cand.Runs(d.drawn(n)) {
			view.Accepts(x, r)
			break
		}
		for _, c := range x.Code {
			for at := range c {
				if d.below(len(c)) == 0 {
					c[at] = d.turned(c[at])
				}
			}
		}
		asked(x, d.anyRun())
	}
}
