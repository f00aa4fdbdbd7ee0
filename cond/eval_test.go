package cond_test

import (
	"math"
	"testing"

	"belated/api"
	"belated/cond"
)

// 8.2: a register, a location has just that value; no other one's counts.
func TestEvalLeaf(t *testing.T) {
	for _, v := range []int{1, -1, 256, 1 << 32, math.MaxInt, math.MinInt} {
		for thread := range 3 {
			for r := range 8 {
				var o api.Outcome
				o.Regs[thread][r] = v
				leafHolds(t, o, reg(thread, r, v))
			}
		}
		for l := range 3 {
			var o api.Outcome
			o.Mem[l] = v
			leafHolds(t, o, loc(l, v))
		}
	}
}

// leafHolds fails if of all leaves with that value any but this one holds of
// an outcome, or another value of it.
func leafHolds(t *testing.T, o api.Outcome, c api.Cond) {
	t.Helper()
	for thread := range 3 {
		for r := range 8 {
			if other := reg(thread, r, c.Value); cond.Eval(o, other) != (other == c) {
				t.Errorf("8.2: Eval(%v, %v)", o, other)
			}
		}
		if other := loc(thread, c.Value); cond.Eval(o, other) != (other == c) {
			t.Errorf("8.2: Eval(%v, %v)", o, other)
		}
	}
	for _, v := range []int{0, c.Value + 1, c.Value - 1, ^c.Value, c.Value ^ 1<<40} {
		other := c
		other.Value = v
		if cond.Eval(o, other) {
			t.Errorf("8.2: Eval(%v, %v)", o, other)
		}
	}
}

// 8.2: not, and, or.
func TestEvalMarks(t *testing.T) {
	a, b := loc(0, 1), reg(1, 2, -4)
	for n := range 4 {
		var o api.Outcome
		isA, isB := n&1 != 0, n&2 != 0
		if isA {
			o.Mem[0] = 1
		}
		if isB {
			o.Regs[1][2] = -4
		}
		for _, x := range []struct {
			cs   []api.Cond
			want bool
		}{
			{[]api.Cond{a}, isA}, {[]api.Cond{b}, isB}, {[]api.Cond{a, nodeNot}, !isA}, {[]api.Cond{b, nodeNot, nodeNot}, isB},
			{[]api.Cond{a, b, nodeAnd}, isA && isB}, {[]api.Cond{a, b, nodeOr}, isA || isB},
			{[]api.Cond{a, b, nodeNot, nodeAnd}, isA && !isB}, {[]api.Cond{a, nodeNot, b, nodeAnd}, !isA && isB}, {[]api.Cond{a, nodeNot, b, nodeOr}, !isA || isB},
			{[]api.Cond{a, b, nodeAnd, nodeNot}, !(isA && isB)}, {[]api.Cond{a, b, nodeOr, nodeNot}, !(isA || isB)},
		} {
			if cond.Eval(o, x.cs...) != x.want {
				t.Errorf("8.2: Eval(%v, %v) = %v", o, x.cs, !x.want)
			}
		}
	}
}

// 8.2: all trees of up to six nodes over three leaves, of all outcomes in
// which these do and do not hold; and greater ones that are drawn.
func TestEvalTrees(t *testing.T) {
	var os []api.Outcome
	for n := range 8 {
		o := api.Outcome{Mem: [3]int{n & 1}}
		o.Regs[0][7], o.Regs[2][0] = n>>1&1, n>>2&1
		os = append(os, o)
	}
	leaves := []api.Cond{loc(0, 1), reg(0, 7, 1), reg(2, 0, 0)}
	for n := 1; n <= 6; n++ {
		for _, tr := range trees(n, leaves) {
			sameEval(t, tr, os...)
		}
	}
	d := drawn(82)
	few := []int{0, 1}
	for range 20000 {
		sameEval(t, d.tree(1+d.below(api.MaxNodes), few), d.outcome(few), d.outcome(few), d.outcome(few))
	}
}

func sameEval(t *testing.T, tr *tree, os ...api.Outcome) {
	t.Helper()
	cs := tr.row()
	for _, o := range os {
		if want := tr.holds(o); cond.Eval(o, cs...) != want {
			t.Fatalf("8.2: Eval(%v, %v) = %v", o, cs, !want)
		}
	}
}
