package flow_test

import (
	"math"
	"testing"

	"belated/api"
	"belated/flow"
)

func defIs(t *testing.T, what string, c code, path []int, at, reg, want int) {
	t.Helper()
	if got := flow.Def(c, path, at, reg); got != want {
		t.Errorf("10.2: %s: at %d, register %d: %d, want %d", what, at, reg, got, want)
	}
}

// 10.2

func TestDefOfEachKind(t *testing.T) {
	for _, i := range []api.Ins{konst(3, 0), move(3, 3), move(3, 4), alu(api.FnXor, 3, 3, 3), alu(api.FnXor, 3, 4, 5), aluImm(api.FnAdd, 3, 4, 1), load(3, 0), by(4, load(3, 0)), by(3, load(3, 0)), rmw(api.FnAdd, 3, 4, 0), by(5, rmw(api.FnSwap, 3, 4, 0)), rmw(api.FnSwap, 3, 3, 0)} {
		for reg := range api.MaxRegs {
			want := -1
			if reg == 3 {
				want = 0
			}
			defIs(t, "one that gives register 3", code{i}, []int{0}, 1, reg, want)
			defIs(t, "ahead of it", code{i}, []int{0}, 0, reg, -1)
		}
	}
	for _, i := range []api.Ins{store(3, 0), by(3, store(3, 0)), storeImm(3, 0), fence(), isb(), ifZero(3, 1), unless(3, 1)} {
		for reg := -2; reg <= api.MaxRegs; reg++ {
			defIs(t, "one that gives none", code{i}, []int{0}, 1, reg, -1)
		}
	}
}

func TestDefIsTheLast(t *testing.T) {
	c := code{konst(1, 1), load(1, 0), store(1, 0), move(2, 1), konst(1, 5), konst(0, 1), konst(7, 1), konst(1, 1)}
	for at, want := range []int{-1, 0, 1, 1, 1, 4, 4, 4, 7} {
		defIs(t, "the last one ahead", c, row(8), at, 1, want)
	}
	for _, at := range odd {
		if at >= 8 {
			defIs(t, "at is cut", c, row(8), at, 1, 7)
			defIs(t, "at is cut", c, row(8), at, 2, 3)
			defIs(t, "the first register", c, row(8), at, 0, 5)
			defIs(t, "the last register", c, row(8), at, 7, 6)
		}
		if at <= 0 {
			defIs(t, "nothing is ahead", c, row(8), at, 1, -1)
		}
		if at < 0 || at > 7 {
			defIs(t, "what is no register", c, row(8), 8, at, -1)
			defIs(t, "what is no register, with what gives none", code{fence(), isb(), storeImm(1, 0)}, row(3), 3, at, -1)
		}
		defIs(t, "the empty path", nil, nil, at, 1, -1)
	}
}

// A register that is given its value on one way and not on the other: places
// are those on the path, not indices.
func TestDefByTheWay(t *testing.T) {
	c := code{konst(2, 0), ifZero(0, 3), konst(1, 1), move(3, 1), load(2, 0)}
	on, off := []int{0, 1, 2, 3, 4}, []int{0, 1, 3, 4}
	defIs(t, "gone through", c, on, 3, 1, 2)
	defIs(t, "not gone through", c, off, 3, 1, -1)
	defIs(t, "behind the branch", c, on, 9, 3, 3)
	defIs(t, "behind the branch, a place less", c, off, 9, 3, 2)
	defIs(t, "the last place", c, on, 5, 2, 4)
	defIs(t, "the last place, one less", c, off, 4, 2, 3)
	defIs(t, "ahead of the last place", c, off, 3, 2, 0)
}

// 10.3

type asked struct {
	at, reg int
	olds    []int
	known   int
	want    int
	ok      bool
}

func valuesAre(t *testing.T, c code, path []int, regs file, list ...asked) {
	t.Helper()
	for _, x := range list {
		if v, ok := flow.Value(c, path, regs, x.at, x.reg, x.olds, x.known); v != x.want || ok != x.ok {
			t.Errorf("10.3: register %d ahead of %d, %v known by %b: %d, %v, want %d, %v", x.reg, x.at, x.olds, x.known, v, ok, x.want, x.ok)
		}
	}
}

var held = file{100, 101, 102, 103, 104, 105, 106, 107}

func TestValueOfOneInstruction(t *testing.T) {
	for _, x := range []struct {
		i    api.Ins
		want int
	}{
		{konst(3, 0), 0}, {konst(3, math.MinInt), math.MinInt}, {konst(3, -9), -9},
		{move(3, 0), 100}, {move(3, 7), 107}, {move(3, 3), 103},
		{alu(api.FnAdd, 3, 1, 2), 203}, {alu(api.FnSub, 3, 1, 2), -1}, {alu(api.FnXor, 3, 1, 2), 101 ^ 102}, {alu(api.FnAnd, 3, 1, 2), 101 & 102}, {alu(api.FnOr, 3, 1, 2), 101 | 102},
		{alu(api.FnSub, 3, 3, 3), 0}, {alu(api.FnAdd, 3, 3, 0), 203}, {alu(api.FnSub, 3, 0, 3), -3},
		{aluImm(api.FnAdd, 3, 1, 5), 106}, {aluImm(api.FnSub, 3, 1, 5), 96}, {aluImm(api.FnXor, 3, 1, -1), ^101}, {aluImm(api.FnAnd, 3, 1, 1), 1}, {aluImm(api.FnOr, 3, 1, 0), 101},
		{aluImm(api.FnAdd, 3, 1, math.MaxInt), math.MinInt + 100}, {aluImm(api.FnAdd, 3, 3, 1), 104},
		{store(3, 0), 103}, {storeImm(3, 0), 103}, {fence(), 103}, {isb(), 103}, {ifZero(3, 1), 103},
	} {
		valuesAre(t, code{x.i}, []int{0}, held, asked{1, 3, nil, 0, x.want, true}, asked{1, 3, []int{55}, -1, x.want, true}, asked{0, 3, nil, 0, 103, true}, asked{1, 4, nil, 0, 104, true}, asked{math.MaxInt, 3, nil, 0, x.want, true})
	}
	for _, i := range []api.Ins{load(3, 0), by(3, load(3, 0)), by(4, load(3, 1)), sized(1, load(3, 0)), rmw(api.FnAdd, 3, 4, 0), rmw(api.FnSwap, 3, 3, 0), by(5, rmw(api.FnAdd, 3, 3, 0)), sized(2, rmw(api.FnSwap, 3, 4, 0))} {
		valuesAre(t, code{i}, []int{0}, held,
			asked{1, 3, []int{-555}, 1, -555, true}, asked{1, 3, []int{math.MinInt}, -1, math.MinInt, true}, asked{1, 3, []int{0}, 1, 0, true}, asked{1, 3, []int{7, 8, 9}, 1, 7, true},
			asked{1, 3, []int{7}, 0, 0, false}, asked{1, 3, []int{7}, ^1, 0, false}, asked{1, 3, nil, 1, 0, false}, asked{1, 3, nil, -1, 0, false}, asked{1, 3, []int{}, 1, 0, false},
			asked{0, 3, nil, 0, 103, true}, asked{-1, 3, []int{7}, -1, 103, true}, asked{1, 4, nil, 0, 104, true})
	}
}

func TestValueOfRegisters(t *testing.T) {
	c := code{load(1, 0), konst(7, 70)}
	olds := []int{5, 6}
	valuesAre(t, c, row(2), held, asked{2, 7, nil, 0, 70, true}, asked{2, 0, nil, 0, 100, true}, asked{1, 7, nil, 0, 107, true})
	for _, at := range odd {
		for _, reg := range odd {
			switch {
			case reg == -1:
				valuesAre(t, c, row(2), held, asked{at, reg, olds, -1, 0, true}, asked{at, reg, nil, 0, 0, true})
			case reg < 0 || reg > 7:
				valuesAre(t, c, row(2), held, asked{at, reg, olds, -1, 0, false}, asked{at, reg, nil, 0, 0, false})
			case at <= 0:
				valuesAre(t, c, row(2), held, asked{at, reg, olds, -1, held[reg], true}, asked{at, reg, nil, 0, held[reg], true})
			}
		}
		valuesAre(t, nil, nil, held, asked{at, 7, nil, 0, 107, true}, asked{at, -1, nil, 0, 0, true}, asked{at, 8, nil, 0, 0, false})
	}
}

func TestValueOfChains(t *testing.T) {
	c := code{load(1, 0), move(2, 1), aluImm(api.FnAdd, 3, 2, 10), load(4, 1), alu(api.FnSub, 5, 4, 3), konst(1, 8), move(4, 1), alu(api.FnAdd, 5, 5, 4)}
	olds := []int{1000, 0, 0, 7}
	valuesAre(t, c, row(8), held,
		asked{2, 2, olds, 1, 1000, true}, asked{3, 3, olds, 1, 1010, true}, asked{3, 3, olds, 8, 0, false}, asked{5, 5, olds, 9, 7 - 1010, true},
		asked{5, 5, olds, 1, 0, false}, asked{5, 5, olds, 8, 0, false}, asked{5, 5, olds, 0, 0, false}, asked{5, 5, olds[:3], 9, 0, false}, asked{5, 5, olds, -1, 7 - 1010, true},
		asked{8, 5, olds, 9, 15 - 1010, true}, asked{8, 5, olds, 1, 0, false}, asked{8, 4, nil, 0, 8, true}, asked{7, 4, nil, 0, 8, true}, asked{6, 4, nil, 0, 0, false}, asked{6, 1, nil, 0, 8, true}, asked{5, 1, olds, 1, 1000, true}, asked{8, 2, olds, 1, 1000, true}, asked{8, 3, olds[:1], 1, 1010, true})
	// What is computed of what is not known is not known, whatever comes of it.
	for _, i := range []api.Ins{alu(api.FnXor, 2, 1, 1), alu(api.FnSub, 2, 1, 1), aluImm(api.FnAnd, 2, 1, 0), aluImm(api.FnOr, 2, 1, -1), alu(api.FnAnd, 2, 1, 0), alu(api.FnAnd, 2, 0, 1)} {
		valuesAre(t, code{load(1, 0), i}, row(2), file{}, asked{2, 2, []int{9}, 0, 0, false}, asked{2, 2, nil, 1, 0, false})
	}
	// A register that is read and written by one instruction is taken as it was ahead.
	valuesAre(t, code{konst(1, 3), alu(api.FnAdd, 1, 1, 1), alu(api.FnAdd, 1, 1, 1), move(1, 1)}, row(4), held, asked{4, 1, nil, 0, 12, true}, asked{2, 1, nil, 0, 6, true})
	valuesAre(t, code{rmw(api.FnAdd, 1, 1, 0), rmw(api.FnAdd, 2, 1, 0)}, row(2), held, asked{2, 1, []int{4, 5}, 3, 4, true}, asked{2, 2, []int{4, 5}, 2, 5, true}, asked{2, 1, []int{4, 5}, 2, 0, false})
}

// Olds and known are by place on the path, not by index.
func TestValueByTheWay(t *testing.T) {
	c := code{konst(1, 1), ifZero(0, 3), konst(2, 2), load(3, 0), move(4, 3)}
	on, off := []int{0, 1, 2, 3, 4}, []int{0, 1, 3, 4}
	olds := []int{90, 91, 92, 93}
	valuesAre(t, c, on, held, asked{5, 2, nil, 0, 2, true}, asked{5, 4, olds, places(3), 93, true}, asked{5, 4, olds, places(2), 0, false})
	valuesAre(t, c, off, held, asked{4, 2, nil, 0, 102, true}, asked{4, 4, olds, places(2), 92, true}, asked{4, 4, olds, places(3), 0, false}, asked{4, 4, olds[:3], -1, 92, true}, asked{4, 4, olds[:2], -1, 0, false})
}
