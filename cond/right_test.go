package cond_test

import (
	"math"
	"slices"
	"testing"

	"belated/api"
	"belated/cond"
)

var (
	nodeNot = kind(api.CondNot)
	nodeAnd = kind(api.CondAnd)
	nodeOr  = kind(api.CondOr)
)

// times is a row of so many nodes that are alike.
func times(n int, c api.Cond) []api.Cond {
	return slices.Repeat([]api.Cond{c}, n)
}

// refused fails if a call takes a row that is not right.
func refused(t *testing.T, what string, cs []api.Cond) {
	t.Helper()
	if cond.Right(cs...) {
		t.Errorf("8.1: %s: %v is right", what, cs)
	}
	for _, o := range []api.Outcome{{}, {Mem: [3]int{1, 1, 1}}} {
		if cond.Eval(o, cs...) {
			t.Errorf("8.2: %s: %v holds", what, cs)
		}
	}
	for _, arch := range arches {
		if text, e := cond.Print(arch, cs...); text != "" || e != api.ErrForm {
			t.Errorf("8.4: %s: Print of %v: %q, %d", what, cs, text, e)
		}
	}
	for quant := api.Exists; quant <= api.Forall; quant++ {
		for _, os := range [][]api.Outcome{nil, {{}}, {{}, {Mem: [3]int{1}}}} {
			if v, e := cond.Judge(quant, cs, os...); v != (api.Verdict{}) || e != api.ErrForm {
				t.Errorf("8.6: %s: Judge %d of %v: %v, %d", what, quant, cs, v, e)
			}
		}
	}
}

// 8.1: each kind of node, and rows of them.
func TestRight(t *testing.T) {
	a, b := reg(1, 2, 3), loc(2, -5)
	for _, cs := range [][]api.Cond{
		{a}, {b}, {a, nodeNot}, {b, nodeNot, nodeNot}, {a, b, nodeAnd}, {a, b, nodeOr}, {b, a, nodeOr, nodeNot},
		{a, b, a, nodeAnd, nodeOr}, {a, b, nodeAnd, a, nodeOr}, {a, nodeNot, b, nodeNot, nodeAnd, nodeNot}, {a, a, nodeAnd}, {a, b, a, b, nodeOr, nodeAnd, nodeOr},
	} {
		if !cond.Right(cs...) {
			t.Errorf("8.1: %v is not right", cs)
		}
	}
	for thread := range 3 {
		for r := range 8 {
			for _, v := range []int{0, 1, -1, math.MaxInt, math.MinInt} {
				if !cond.Right(reg(thread, r, v)) || !cond.Right(loc(thread, v)) {
					t.Errorf("8.1: thread or location %d, register %d, value %d", thread, r, v)
				}
			}
		}
	}
}

// 8.1: no nodes, too few parts, too many conditions.
func TestNotOne(t *testing.T) {
	a, b := reg(0, 0, 0), loc(0, 0)
	if cond.Right() || cond.Eval(api.Outcome{}) {
		t.Error("8.1: of no nodes")
	}
	if text, e := cond.Print(api.X86); text != "" || e != api.ErrForm {
		t.Errorf("8.4: of no nodes: %q, %d", text, e)
	}
	refused(t, "no nodes", nil)
	refused(t, "no nodes", []api.Cond{})
	for _, cs := range [][]api.Cond{
		{nodeNot}, {nodeAnd}, {nodeOr}, {a, nodeAnd}, {a, nodeOr}, {nodeNot, a}, {nodeAnd, a, b}, {a, nodeAnd, b}, {a, nodeNot, nodeAnd}, {a, b, nodeAnd, nodeOr}, {nodeNot, nodeNot}, {a, nodeOr, b, nodeAnd, b}, {nodeNot, a, nodeNot},
	} {
		refused(t, "too few parts", cs)
	}
	for _, cs := range [][]api.Cond{
		{a, b}, {a, a}, {a, nodeNot, b}, {a, b, nodeNot}, {a, b, nodeAnd, b}, {a, b, b, nodeOr}, {a, b, a, b}, {a, b, nodeOr, a, b, nodeAnd},
	} {
		refused(t, "too many conditions", cs)
	}
}

// 8.1: each field out of range, each other field not 0.
func TestFields(t *testing.T) {
	far := []int{-1, -2, math.MinInt, math.MaxInt, 1 << 32, 256}
	for _, n := range append(far, 3, 4) {
		refused(t, "thread", []api.Cond{reg(n, 0, 0)})
		refused(t, "location", []api.Cond{loc(n, 0)})
		refused(t, "location inside", []api.Cond{loc(0, 0), loc(n, 0), nodeOr})
	}
	for _, n := range append(far, 8, 9) {
		refused(t, "register", []api.Cond{reg(0, n, 0)})
		refused(t, "register inside", []api.Cond{reg(2, n, 0), loc(0, 0), nodeOr})
	}
	for _, n := range append(far, 0, 6, 7) {
		refused(t, "kind", []api.Cond{kind(n)})
		refused(t, "kind behind a part", []api.Cond{loc(0, 0), kind(n)})
		refused(t, "kind behind two", []api.Cond{loc(0, 0), loc(0, 0), kind(n)})
	}
	for _, n := range append(far, 1, 2) {
		refused(t, "a register's Loc", []api.Cond{{Kind: api.CondReg, Loc: n}})
		refused(t, "a location's Thread", []api.Cond{{Kind: api.CondLoc, Thread: n}})
		refused(t, "a location's Reg", []api.Cond{{Kind: api.CondLoc, Reg: n}})
		for _, k := range []int{api.CondNot, api.CondAnd, api.CondOr} {
			parts := times(min(k-2, 2), loc(0, 0))
			for _, c := range []api.Cond{{Kind: k, Thread: n}, {Kind: k, Reg: n}, {Kind: k, Loc: n}, {Kind: k, Value: n}} {
				refused(t, "another field", append(slices.Clone(parts), c))
			}
			if !cond.Right(append(slices.Clone(parts), kind(k))...) {
				t.Errorf("8.1: kind %d with %d parts is not right", k, len(parts))
			}
		}
	}
}

// 8.1: MaxNodes nodes, and more, in rows of each form.
func TestMaxNodes(t *testing.T) {
	a := loc(1, 0)
	left := []api.Cond{a}
	for range 15 {
		left = append(left, a, nodeOr)
	}
	for what, cs := range map[string][]api.Cond{
		"nots":            append([]api.Cond{a}, times(31, nodeNot)...),
		"to the right":    append(append(times(16, a), times(15, nodeAnd)...), nodeNot),
		"to the left":     append(slices.Clone(left), nodeNot),
		"a not to begin":  append([]api.Cond{a, nodeNot}, append(times(15, a), times(15, nodeOr)...)...),
		"a not in middle": slices.Insert(slices.Clone(left), 15, nodeNot),
	} {
		if len(cs) != api.MaxNodes || !cond.Right(cs...) {
			t.Errorf("8.1: %s: %d nodes: %v", what, len(cs), cond.Right(cs...))
		}
		if text, e := cond.Print(api.ARM, cs...); text == "" || e != api.OK {
			t.Errorf("8.4: %s: %q, %d", what, text, e)
		}
		refused(t, what+", one more", append(slices.Clone(cs), nodeNot))
		refused(t, what+", two more", append(slices.Clone(cs), a, nodeAnd))
		refused(t, what+", many more", append(slices.Clone(cs), times(300, nodeNot)...))
	}
}

// modelRight is 8.1, from the last node back: what is left of a row ahead of
// the condition that it ends with; -1, if it ends with none.
func modelRight(cs []api.Cond, end int) int {
	if end == 0 {
		return -1
	}
	parts := map[int]int{api.CondReg: 0, api.CondLoc: 0, api.CondNot: 1, api.CondAnd: 2, api.CondOr: 2}
	left := end - 1
	for range parts[cs[end-1].Kind] {
		if left = modelRight(cs, left); left < 0 {
			return -1
		}
	}
	return left
}

// 8.1: all rows of up to seven nodes.
func TestAllRows(t *testing.T) {
	var each func(cs []api.Cond)
	each = func(cs []api.Cond) {
		want := modelRight(cs, len(cs)) == 0
		if cond.Right(cs...) != want {
			t.Errorf("8.1: Right of %v is %v", cs, !want)
		}
		if !want && cond.Eval(api.Outcome{}, cs...) {
			t.Errorf("8.2: %v holds", cs)
		}
		if len(cs) == 7 {
			return
		}
		for _, c := range []api.Cond{reg(0, 0, 0), loc(0, 0), nodeNot, nodeAnd, nodeOr} {
			each(append(cs[:len(cs):len(cs)], c))
		}
	}
	each(nil)
}
