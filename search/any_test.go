package search_test

import (
	"math"
	"slices"
	"strconv"
	"testing"

	"belated/api"
	"belated/flat"
	"belated/mach"
	"belated/sc"
	"belated/search"
	"belated/tso"
)

// graph is a machine whose states are numbers, with what its moves lead to: below
// 0 is one that is not done. Its Moves tell nothing of which is which.
type graph struct {
	at   int
	to   [][]int
	done []bool
}

func (g *graph) Moves() []api.Move { return make([]api.Move, len(g.to[g.at])) }

func (g *graph) Do(i int) bool {
	if i < 0 || i >= len(g.to[g.at]) || g.to[g.at][i] < 0 {
		return false
	}
	g.at = g.to[g.at][i]
	return true
}

func (g *graph) Done() bool           { return g.done[g.at] }
func (g *graph) Outcome() api.Outcome { return outcome(locs{g.at % 7, g.at / 7}) }
func (g *graph) Key() string          { return strconv.Itoa(g.at) }

func (g *graph) Twin() mach.Machine {
	twin := *g
	return &twin
}

// 19.1, 19.3, 19.4, R8: machines of any maker: states with no move that are not
// Done, Done ones with moves, moves that are not done, states on several ways, and
// on rings.
func TestGraphs(t *testing.T) {
	d := dice(199)
	none, rings := 0, 0
	for range 3000 {
		n := 1 + d.below(12)
		g := &graph{at: d.below(n), to: make([][]int, n), done: make([]bool, n)}
		for at := range n {
			for range d.below(4) {
				g.to[at] = append(g.to[at], d.below(n+1)-1)
			}
			g.done[at] = d.below(4) == 0
		}
		met := []int{g.at}
		for k := 0; k < len(met); k++ {
			for _, to := range g.to[met[k]] {
				if to >= 0 && !slices.Contains(met, to) {
					met = append(met, to)
				} else if to >= 0 {
					rings++
				}
			}
		}
		var want []api.Outcome
		for at := range n {
			o := (&graph{at: at}).Outcome()
			if !g.done[at] || !slices.Contains(met, at) {
				misses(t, "a graph", g, o)
				continue
			}
			want = append(want, o)
			reaches(t, "a graph", g, o)
		}
		comes(t, "a graph", test(nil, nil), g, want...)
		if len(want) == 0 {
			none++
		}
		if t.Failed() {
			t.Fatalf("of the graph %+v", g)
		}
	}
	if none < 300 || rings < 3000 {
		t.Errorf("drawn too thin: nothing comes of %d, %d rings or other ways", none, rings)
	}
}

// R8: a row of many states has an end.
func TestALongRow(t *testing.T) {
	const n = 200000
	g := &graph{to: make([][]int, n), done: make([]bool, n)}
	for at := range n - 1 {
		g.to[at] = []int{at + 1}
	}
	g.done[n-1] = true
	last := (&graph{at: n - 1}).Outcome()
	comes(t, "a long row", test(), g, last)
	if picks, ok := search.Reach(g, last); !ok || len(picks) != n-1 {
		t.Errorf("19.4: Reach of a long row = %d picks, %v", len(picks), ok)
	}
}

// broken is a machine that panics at one of its calls, the n-th time.
type broken struct {
	mach.Machine
	call  string
	count *int
}

func (b broken) at(call string) {
	if call == b.call {
		if *b.count--; *b.count < 0 {
			panic("broken")
		}
	}
}

func (b broken) Moves() []api.Move    { b.at("Moves"); return b.Machine.Moves() }
func (b broken) Do(i int) bool        { b.at("Do"); return b.Machine.Do(i) }
func (b broken) Done() bool           { b.at("Done"); return b.Machine.Done() }
func (b broken) Outcome() api.Outcome { b.at("Outcome"); return b.Machine.Outcome() }
func (b broken) Key() string          { b.at("Key"); return b.Machine.Key() }
func (b broken) Twin() mach.Machine {
	b.at("Twin")
	if b.at("nil"); b.call == "nil" && *b.count == 0 {
		return nil
	}
	return broken{b.Machine.Twin(), b.call, b.count}
}

// nothing is whether nothing is told of a machine, or of what there is not.
func nothing(t *testing.T, what string, m func() mach.Machine) {
	t.Helper()
	x := buffering()
	if os := search.All(m()); len(os) != 0 {
		t.Errorf("R6: All of %s = %v", what, os)
	}
	if os := search.Sleep(x, m()); len(os) != 0 {
		t.Errorf("R6: Sleep of %s = %v", what, os)
	}
	if picks, ok := search.Reach(m(), api.Outcome{Mem: locs{-77}}); ok || len(picks) != 0 {
		t.Errorf("R6: Reach of %s = %v, %v", what, picks, ok)
	}
}

// R6: of a machine that panics, or that there is not, nothing is told.
func TestNoMachine(t *testing.T) {
	for what, m := range map[string]mach.Machine{
		"none": nil, "no sc": (*sc.Machine)(nil), "no tso": (*tso.Machine)(nil), "no flat": (*flat.Machine)(nil), "no graph": (*graph)(nil),
		"an empty sc": &sc.Machine{}, "an empty tso": &tso.Machine{}, "an empty flat": &flat.Machine{}, "an empty graph": &graph{}, "a broken one": broken{},
	} {
		nothing(t, what, func() mach.Machine { return m })
	}
	for _, k := range kinds() {
		for _, call := range []string{"Moves", "Do", "Done", "Outcome", "Key", "Twin", "nil"} {
			for _, n := range []int{0, 1, 2} {
				nothing(t, k.name+" that breaks at "+call, func() mach.Machine {
					count := n
					return broken{k.make(buffering()), call, &count}
				})
			}
		}
	}
}

// any draws an instruction of any fields.
func (d *dice) any() api.Ins {
	n := func() int { return d.among([]int{-1, 0, 1, 2, 3, 5, 7, 8, 9, 256, math.MinInt, math.MaxInt}) }
	return api.Ins{Op: d.below(12) - 1, Dst: n(), A: n(), B: n(), Imm: n(), Loc: n(), Off: n(), Index: n(), Size: n(), Fn: n(),
		Acq: d.flag(), Weak: d.flag(), Rel: d.flag(), Pred: n(), Succ: n(), To: n(), Zero: d.flag()}
}

// turned is an instruction with one of its fields turned.
func (d *dice) turned(i api.Ins) api.Ins {
	fields := []*int{&i.Op, &i.Dst, &i.A, &i.B, &i.Imm, &i.Loc, &i.Off, &i.Index, &i.Size, &i.Fn, &i.Pred, &i.Succ, &i.To}
	*fields[d.below(len(fields))] = d.among(odd)
	return i
}

// asks asks of a test, whatever it is, all that there is to ask.
func (d *dice) asks(x, other api.Test) {
	n := func() int { return d.among([]int{0, 0, 1, 1, 2, 3, 4, 7, d.among(odd)}) }
	for range 20 {
		search.Free(x, api.Move{Kind: n(), Thread: n(), At: n(), N: n()}, api.Move{Kind: n(), Thread: n(), At: n(), N: n()})
	}
	for _, k := range kinds() {
		m := k.make(x)
		os := search.All(m)
		search.Sleep(x, m)
		search.Sleep(other, m)
		search.Reach(m, api.Outcome{Mem: locs{n()}})
		for _, o := range os {
			search.Reach(m, o)
		}
	}
}

// R6, R8: of tests that are not right, of a machine of another test, nothing is
// said but that nothing panics, and all ends.
func TestAnyTest(t *testing.T) {
	t.Parallel()
	d := dice(290)
	sb := buffering()
	for _, x := range []api.Test{
		{},
		{Code: make([]code, 1)},
		{Code: make([]code, 100), Init: locs{1, 2, 3}, Regs: [3]file{{1}, {2}, {3}}},
		test(slices.Repeat(code{isb()}, 100000)),
		test(slices.Repeat(code{load(0, x)}, api.MaxCode)),
		test(code{ifZero(0, 0)}),
		test(code{isb(), isb(), ifZero(0, 0)}),
		test(code{ifZero(0, 9)}),
		test(code{part(0, 3, load(0, x))}, code{load(9, x)}, code{by(8, store(0, x))}),
		test(code{load(0, 3)}, code{put(-1, 1)}),
		test(code{api.Ins{}}),
	} {
		d.asks(x, sb)
		d.asks(sb, x)
	}
	for n := range 400 {
		x := test(make([]code, d.below(5))...)
		for thread := range x.Code {
			for range d.below(10) {
				x.Code[thread] = append(x.Code[thread], d.any())
			}
		}
		other := d.drawn(n)
		d.asks(x, other)
		for _, c := range other.Code {
			for at := range c {
				if d.below(len(c)) == 0 {
					c[at] = d.turned(c[at])
				}
			}
		}
		d.asks(other, x)
	}
}
