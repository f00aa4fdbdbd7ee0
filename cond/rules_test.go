package cond_test

import (
	"math"
	"slices"
	"testing"

	"belated/api"
	"belated/cond"
)

// The chapter's table of examples.
func TestExamples(t *testing.T) {
	printed(t, api.X86, `0:RAX=1 /\ x=2`, reg(0, 0, 1), loc(0, 2), nodeAnd)
	a, b, c := loc(0, 1), loc(1, 1), loc(2, 1)
	printed(t, api.X86, `x=1 \/ y=1 /\ z=1`, a, b, c, nodeAnd, nodeOr)
	printed(t, api.X86, `(x=1 \/ y=1) /\ z=1`, a, b, nodeOr, c, nodeAnd)
	printed(t, api.X86, `~(x=1 /\ y=1)`, a, b, nodeAnd, nodeNot)
	x0, x1 := api.Outcome{}, api.Outcome{Mem: [3]int{1}}
	is0 := []api.Cond{loc(0, 0)}
	judged(t, api.Forall, is0, api.Verdict{Witness: true, Outcome: x1, States: 2}, x0, x1)
	judged(t, api.Exists, is0, api.Verdict{})
	judged(t, api.Forall, is0, api.Verdict{Holds: true})
}

// roomy is a list with room behind it that holds something.
func roomy[T any](list []T, behind T) (part, whole []T) {
	whole = append(slices.Clone(list), behind, behind)
	return whole[:len(list)], whole
}

// R3: lists that are handed in stay as they were, and the room behind them.
func TestKeepsArguments(t *testing.T) {
	cs, allCs := roomy([]api.Cond{loc(0, 1), reg(1, 1, 2), nodeOr, nodeNot}, loc(2, 9))
	ts, allTs := roomy(words(t, `~(x=1 \/ 1:RBX=2)`), api.Token{Kind: api.TokName, Text: "w", At: 99})
	os, allOs := roomy([]api.Outcome{{Mem: [3]int{2}}, {Mem: [3]int{1}}, {Mem: [3]int{2}}, {}}, api.Outcome{Mem: [3]int{-9}})
	oldCs, oldTs, oldOs := slices.Clone(allCs), slices.Clone(allTs), slices.Clone(allOs)
	for range 2 {
		cond.Right(cs...)
		if text, e := cond.Print(api.X86, cs...); text != `~(x=1 \/ 1:RBX=2)` || e != api.OK {
			t.Errorf("8.4: %q, %d", text, e)
		}
		if got := parse(api.X86, ts...); !got.same(told{nodes: cs}) {
			t.Errorf("8.3: %v", got)
		}
		for _, o := range os {
			cond.Eval(o, cs...)
		}
		if got := cond.Sort(os...); !slices.Equal(got, []api.Outcome{os[3], os[1], os[0]}) {
			t.Errorf("8.5: %v", got)
		}
		for quant := api.Exists; quant <= api.Forall; quant++ {
			cond.Judge(quant, cs, os...)
		}
	}
	if !slices.Equal(allCs, oldCs) || !slices.Equal(allTs, oldTs) || !slices.Equal(allOs, oldOs) {
		t.Error("R3: a list that was handed in was turned")
	}
}

// R3: what is answered is new memory, and the room behind it.
func TestAnswersAreNew(t *testing.T) {
	overwrite := func(nodes []api.Cond) {
		for n := range nodes[:cap(nodes)] {
			nodes[:cap(nodes)][n] = loc(2, 99)
		}
	}
	ts := words(t, `x=1 /\ y=2 \/ ~z=3`)
	first, second := parse(api.ARM, ts...), parse(api.ARM, ts...)
	overwrite(first.nodes)
	third := parse(api.ARM, ts...)
	if !second.same(third) || second.nodes[0] != loc(0, 1) {
		t.Errorf("R3: Parse: %v, %v", second, third)
	}
	for _, os := range [][]api.Outcome{{{Mem: [3]int{2}}, {Mem: [3]int{1}}, {Mem: [3]int{1}}}, {{}}, {{}, {}}, {{}, {Mem: [3]int{1}}}} {
		os, all := roomy(os, api.Outcome{})
		old := slices.Clone(all)
		a, b := cond.Sort(os...), cond.Sort(os...)
		was := slices.Clone(b)
		for n := range a[:cap(a)] {
			a[:cap(a)][n] = api.Outcome{Mem: [3]int{99}}
		}
		if !slices.Equal(all, old) || !slices.Equal(b, was) {
			t.Errorf("R3: what Sort answered is shared: %v, %v", all, b)
		}
	}
	none, all := roomy([]api.Outcome{}, api.Outcome{})
	a := append(cond.Sort(none...), api.Outcome{Mem: [3]int{99}})
	if len(a) != 1 || all[0] != (api.Outcome{}) {
		t.Error("R3: what Sort answered of nothing is shared")
	}
}

// R6: no call panics: words that scan does not tell, nodes with any fields.
func TestNoPanic(t *testing.T) {
	d := drawn(6)
	some := []int{0, 1, 2, 3, 4, 5, 6, 7, 8, -1, math.MaxInt, math.MinInt}
	texts := append(slices.Clone(vocabulary), "", " ", "\x00", "é", "1", "x=1", "((")
	number := func() int { return some[d.below(len(some))] }
	for range 100000 {
		ts := make([]api.Token, d.below(10))
		for k := range ts {
			ts[k] = api.Token{Kind: number(), Text: texts[d.below(len(texts))], N: number(), At: number()}
		}
		cs := make([]api.Cond, d.below(8))
		for k := range cs {
			cs[k] = api.Cond{Kind: number()}
			if d.below(2) == 0 {
				cs[k] = api.Cond{Kind: number(), Thread: number(), Reg: number(), Loc: number(), Value: number()}
			}
		}
		arch, quant, o := number(), number(), d.outcome(some)
		if nodes, e, at := cond.Parse(arch, ts...); e == api.OK && (at != 0 || !cond.Right(nodes...)) || e != api.OK && len(nodes) != 0 {
			t.Fatalf("8.3: Parse(%d, %v) = %v, %d, %d", arch, ts, nodes, e, at)
		}
		right := cond.Right(cs...)
		if cond.Eval(o, cs...) && !right {
			t.Fatalf("8.2: %v holds", cs)
		}
		if text, e := cond.Print(arch, cs...); (e == api.OK) != (text != "") || (e == api.OK) != (right && arch >= 1 && arch <= 3) {
			t.Fatalf("8.4: Print(%d, %v) = %q, %d", arch, cs, text, e)
		}
		if v, e := cond.Judge(quant, cs, o, o); (e == api.OK) != (right && quant >= 1 && quant <= 3) || (e == api.OK) != (v.States == 1) {
			t.Fatalf("8.6: Judge(%d, %v) = %v, %d", quant, cs, v, e)
		}
	}
}
