package cond_test

import (
	"math"
	"slices"
	"testing"

	"belated/api"
	"belated/cond"
)

// flat is all numbers of an outcome, in the order of 8.5.
func flat(o api.Outcome) []int {
	var all []int
	for _, regs := range o.Regs {
		all = append(all, regs[:]...)
	}
	return append(all, o.Mem[:]...)
}

// put is an outcome with one number set, by its place in that order.
func put(o api.Outcome, n, v int) api.Outcome {
	if n < 24 {
		o.Regs[n/8][n%8] = v
	} else {
		o.Mem[n-24] = v
	}
	return o
}

const numbers = 27 // of an outcome

func modelLess(a, b api.Outcome) bool {
	as, bs := flat(a), flat(b)
	for n := range as {
		if as[n] != bs[n] {
			return as[n] < bs[n]
		}
	}
	return false
}

// 8.5: the first number in which they part tells, whatever is behind it.
func TestLess(t *testing.T) {
	for n := range numbers {
		for _, x := range [][2]int{{0, 1}, {-1, 0}, {-1, 1}, {math.MinInt, math.MaxInt}, {math.MinInt, 0}, {1, math.MaxInt}, {1, 1 << 32}} {
			a, b := put(api.Outcome{}, n, x[0]), put(api.Outcome{}, n, x[1])
			for later := n; later < numbers; later++ {
				c, d := a, b
				if later > n {
					c, d = put(a, later, 9), put(b, later, -9)
				}
				if !cond.Less(c, d) || cond.Less(d, c) || cond.Less(c, c) || cond.Less(d, d) {
					t.Errorf("8.5: number %d, %v, then %d: Less", n, x, later)
				}
			}
		}
	}
	if cond.Less(api.Outcome{}, api.Outcome{}) {
		t.Error("8.5: an outcome comes ahead of itself")
	}
}

// 8.5: of drawn outcomes, by the model.
func TestLessDrawn(t *testing.T) {
	d := drawn(85)
	for range 20000 {
		a := d.outcome([]int{0, 1, -1, math.MaxInt, math.MinInt})
		b := put(put(a, d.below(numbers), d.below(3)-1), d.below(numbers), d.below(3)-1)
		if cond.Less(a, b) != modelLess(a, b) || cond.Less(b, a) != modelLess(b, a) {
			t.Fatalf("8.5: Less of %v, %v", a, b)
		}
	}
}

// 8.5: none, one, several alike, outcomes that part in one number alone.
func TestSort(t *testing.T) {
	var zero api.Outcome
	last := put(zero, numbers-1, 1)
	below := put(zero, numbers-1, -1)
	for _, x := range []struct{ os, want []api.Outcome }{
		{nil, nil}, {[]api.Outcome{}, nil}, {[]api.Outcome{zero}, []api.Outcome{zero}}, {[]api.Outcome{last, last, last}, []api.Outcome{last}},
		{[]api.Outcome{last, zero}, []api.Outcome{zero, last}}, {[]api.Outcome{zero, last}, []api.Outcome{zero, last}}, {[]api.Outcome{zero, last, zero, below, last, below}, []api.Outcome{below, zero, last}},
	} {
		if got := cond.Sort(x.os...); !slices.Equal(got, x.want) {
			t.Errorf("8.5: Sort(%v) = %v, want %v", x.os, got, x.want)
		}
	}
	var os, want []api.Outcome
	for n := range numbers {
		os = append(os, put(zero, n, 1), zero, put(zero, n, -1), put(zero, n, 1))
		want = append(want, put(zero, n, -1))
	}
	want = append(want, zero)
	for n := range numbers {
		want = append(want, put(zero, numbers-1-n, 1))
	}
	if got := cond.Sort(os...); !slices.Equal(got, want) {
		t.Errorf("8.5: Sort = %v, want %v", got, want)
	}
	if len(cond.Sort()) != 0 {
		t.Error("8.5: Sort of nothing")
	}
}

// modelSort takes the first one that is left, again and again.
func modelSort(os []api.Outcome) []api.Outcome {
	var sorted []api.Outcome
	left := slices.Clone(os)
	for len(left) > 0 {
		first := left[0]
		for _, o := range left {
			if modelLess(o, first) {
				first = o
			}
		}
		sorted = append(sorted, first)
		left = slices.DeleteFunc(left, func(o api.Outcome) bool { return o == first })
	}
	return sorted
}

// drawnOutcomes is up to n outcomes; some are alike, most alike in much.
func drawnOutcomes(d *drawn, n int) []api.Outcome {
	var os []api.Outcome
	for range d.below(n + 1) {
		var o api.Outcome
		for range d.below(3) {
			o = put(o, d.below(numbers), d.below(3)-1)
		}
		os = append(os, o)
	}
	return os
}

func TestSortDrawn(t *testing.T) {
	d := drawn(58)
	for range 3000 {
		os := drawnOutcomes(&d, 40)
		want := modelSort(os)
		if got := cond.Sort(os...); !slices.Equal(got, want) {
			t.Fatalf("8.5: Sort(%v) = %v, want %v", os, got, want)
		}
		if got := cond.Sort(want...); !slices.Equal(got, want) {
			t.Fatalf("8.5: Sort of what is sorted: %v, was %v", got, want)
		}
	}
}

// judged fails if Judge tells another verdict.
func judged(t *testing.T, quant int, cs []api.Cond, want api.Verdict, os ...api.Outcome) {
	t.Helper()
	if v, e := cond.Judge(quant, cs, os...); v != want || e != api.OK {
		t.Errorf("8.6: Judge(%d, %v, %v) = %v, %d, want %v", quant, cs, os, v, e, want)
	}
}

// 8.6: each quantifier, over none, one, several.
func TestJudge(t *testing.T) {
	var zero api.Outcome
	x1, x2 := put(zero, 24, 1), put(zero, 24, 2)
	z1, low := put(zero, 26, 1), put(zero, 0, -1)
	is0, is1 := []api.Cond{loc(0, 0)}, []api.Cond{loc(0, 1)}
	yes := func(n int) api.Verdict { return api.Verdict{Holds: true, States: n} }
	no := func(n int) api.Verdict { return api.Verdict{States: n} }
	by := func(holds bool, n int, o api.Outcome) api.Verdict {
		return api.Verdict{Holds: holds, Witness: true, Outcome: o, States: n}
	}
	judged(t, api.Exists, is0, no(0))
	judged(t, api.NotExists, is0, yes(0))
	judged(t, api.Forall, is0, yes(0))
	for _, os := range [][]api.Outcome{{zero}, {zero, zero}, {zero, zero, zero}} {
		judged(t, api.Exists, is0, by(true, 1, zero), os...)
		judged(t, api.NotExists, is0, by(false, 1, zero), os...)
		judged(t, api.Forall, is0, yes(1), os...)
		judged(t, api.Exists, is1, no(1), os...)
		judged(t, api.NotExists, is1, yes(1), os...)
		judged(t, api.Forall, is1, by(false, 1, zero), os...)
	}
	for _, os := range [][]api.Outcome{{x2, x1, z1, zero, x1, low}, {low, zero, z1, x1, x2}, {x1, x1, low, x2, zero, zero, z1}} {
		judged(t, api.Exists, is0, by(true, 5, low), os...)
		judged(t, api.NotExists, is0, by(false, 5, low), os...)
		judged(t, api.Forall, is0, by(false, 5, x1), os...)
		judged(t, api.Exists, is1, by(true, 5, x1), os...)
		judged(t, api.NotExists, is1, by(false, 5, x1), os...)
		judged(t, api.Forall, is1, by(false, 5, low), os...)
		judged(t, api.Exists, []api.Cond{loc(0, 3)}, no(5), os...)
		judged(t, api.NotExists, []api.Cond{loc(0, 3)}, yes(5), os...)
		judged(t, api.Forall, []api.Cond{loc(0, 3), nodeNot}, yes(5), os...)
		judged(t, api.Exists, []api.Cond{loc(2, 1)}, by(true, 5, z1), os...)
		judged(t, api.Forall, []api.Cond{loc(2, 1), nodeNot}, by(false, 5, z1), os...)
	}
	judged(t, api.Forall, is0, yes(3), z1, zero, low, z1)
}

// 8.6: ErrArg, a quantifier that is none, ahead of ErrForm.
func TestJudgeRefused(t *testing.T) {
	for _, quant := range []int{0, 4, -1, 5, math.MaxInt, math.MinInt, 1<<32 + 1} {
		for _, cs := range [][]api.Cond{nil, {loc(0, 0)}, {nodeNot}, {loc(3, 0)}, times(33, nodeNot)} {
			for _, os := range [][]api.Outcome{nil, {{}}} {
				if v, e := cond.Judge(quant, cs, os...); v != (api.Verdict{}) || e != api.ErrArg {
					t.Errorf("8.6: Judge(%d, %v) = %v, %d", quant, cs, v, e)
				}
			}
		}
	}
}

// modelJudge is 8.6, of a tree.
func modelJudge(quant int, tr *tree, os []api.Outcome) api.Verdict {
	sorted := modelSort(os)
	v := api.Verdict{States: len(sorted)}
	var yes, no []api.Outcome
	for _, o := range sorted {
		if tr.holds(o) {
			yes = append(yes, o)
		} else {
			no = append(no, o)
		}
	}
	shown := yes
	switch quant {
	case api.Exists:
		v.Holds = len(yes) > 0
	case api.NotExists:
		v.Holds = len(yes) == 0
	case api.Forall:
		v.Holds = len(no) == 0
		shown = no
	}
	if len(shown) > 0 {
		v.Witness, v.Outcome = true, shown[0]
	}
	return v
}

// 8.6, 8.7: of drawn conditions and outcomes: the model's verdicts; Exists and
// NotExists never both hold, and one does; Forall is NotExists of the opposite.
func TestJudgeDrawn(t *testing.T) {
	d := drawn(86)
	for range 10000 {
		tr := d.tree(1+d.below(12), []int{0, 1, -1})
		cs, os := tr.row(), drawnOutcomes(&d, 12)
		for quant := api.Exists; quant <= api.Forall; quant++ {
			judged(t, quant, cs, modelJudge(quant, tr, os), os...)
		}
		exists, _ := cond.Judge(api.Exists, cs, os...)
		never, _ := cond.Judge(api.NotExists, cs, os...)
		if exists.Holds == never.Holds || exists.Witness != exists.Holds || never.Witness == never.Holds || exists.Outcome != never.Outcome {
			t.Errorf("8.7: of %v: Exists %v, NotExists %v", cs, exists, never)
		}
		all, _ := cond.Judge(api.Forall, cs, os...)
		opposite, _ := cond.Judge(api.NotExists, append(slices.Clone(cs), nodeNot), os...)
		if all != opposite {
			t.Errorf("8.7: of %v: Forall %v, NotExists of its opposite %v", cs, all, opposite)
		}
		if exists.Witness && !cond.Eval(exists.Outcome, cs...) || all.Witness && cond.Eval(all.Outcome, cs...) {
			t.Errorf("8.6: of %v: witnesses %v, %v", cs, exists.Outcome, all.Outcome)
		}
	}
}
