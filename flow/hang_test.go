package flow_test

import (
	"testing"

	"belated/api"
	"belated/flow"
)

type hanging struct{ at, addr, data, ctrl int }

func hangsAre(t *testing.T, what string, c code, path []int, list ...hanging) {
	t.Helper()
	for _, x := range list {
		got := hanging{x.at, flow.Addr(c, path, x.at), flow.Data(c, path, x.at), flow.Ctrl(c, path, x.at)}
		if got != x {
			t.Errorf("10.4: %s: at %d Addr %b, Data %b, Ctrl %b, want %b, %b, %b", what, x.at, got.addr, got.data, got.ctrl, x.addr, x.data, x.ctrl)
		}
	}
}

// 10.4

// Each kind of instruction as the one behind a read of r1 and one of r2.
func TestHangsOfEachKind(t *testing.T) {
	for _, x := range []struct {
		what string
		i    api.Ins
		addr int
		data int
	}{
		{"a constant", konst(3, 1), 0, 0}, {"a move", move(3, 1), 0, 0}, {"a computation", alu(api.FnAdd, 3, 1, 2), 0, 0}, {"a fence", fence(), 0, 0}, {"an OpIsb", isb(), 0, 0}, {"a branch", ifZero(1, 3), 0, 0},
		{"a load", load(1, 0), 0, 0}, {"a load by r1", by(1, load(3, 0)), 1, 0}, {"a load by r2, to it", by(2, load(2, 0)), 2, 0}, {"a load by r7", by(7, load(2, 0)), 0, 0},
		{"a store of r1", store(1, 0), 0, 1}, {"a store of r1 by r2", by(2, store(1, 0)), 2, 1}, {"a store of r2 by r2", by(2, store(2, 0)), 2, 2}, {"a store of r0 by r1", by(1, store(0, 0)), 1, 0}, {"a store of a number by r1", by(1, storeImm(2, 0)), 1, 0}, {"a store of a number", storeImm(2, 0), 0, 0},
		{"a swap of r1", rmw(api.FnSwap, 3, 1, 0), 0, 1}, {"a sum of r2, to it, by r1", by(1, rmw(api.FnAdd, 2, 2, 0)), 1, 2}, {"a swap to r1", rmw(api.FnSwap, 1, 0, 0), 0, 0}, {"a swap by r0 to r1", by(0, rmw(api.FnSwap, 1, 0, 0)), 0, 0},
	} {
		c := code{load(1, 0), load(2, 1), x.i}
		ctrl := 0
		if x.i.Op == api.OpBranch {
			ctrl = 1
		}
		hangsAre(t, x.what, c, row(3), hanging{2, x.addr, x.data, 0}, hanging{3, 0, 0, ctrl}, hanging{1, 0, 0, 0}, hanging{0, 0, 0, 0}, hanging{-1, 0, 0, 0})
	}
}

// Each kind of instruction as the one that gives r3 its value.
func TestHangsThroughEachKind(t *testing.T) {
	for _, x := range []struct {
		what string
		i    api.Ins
		want int
	}{
		{"a constant", konst(3, 1), 0}, {"a constant 0", konst(3, 0), 0},
		{"a move", move(3, 1), places(0)}, {"a move of one of its own", move(3, 7), 0}, {"a move to itself", move(3, 3), places(2)},
		{"a computation of two", alu(api.FnAdd, 3, 1, 2), places(0, 1)}, {"of one, twice", alu(api.FnXor, 3, 1, 1), places(0)}, {"of B", alu(api.FnSub, 3, 7, 2), places(1)}, {"of A", alu(api.FnAnd, 3, 1, 7), places(0)}, {"of itself", alu(api.FnOr, 3, 3, 2), places(1, 2)}, {"of none", alu(api.FnOr, 3, 7, 0), 0},
		{"a computation with a number", aluImm(api.FnAdd, 3, 2, 1), places(1)}, {"with 0", aluImm(api.FnAnd, 3, 2, 0), places(1)},
		{"a load", load(3, 0), places(3)}, {"a load by r1", by(1, load(3, 0)), places(3)}, {"a load by r3", by(3, load(3, 0)), places(3)},
		{"a swap of r1 by r2", by(2, rmw(api.FnSwap, 3, 1, 0)), places(3)}, {"a sum of r3", rmw(api.FnAdd, 3, 3, 0), places(3)},
		{"a store of r3", store(3, 0), places(2)}, {"a fence", fence(), places(2)}, {"an OpIsb", isb(), places(2)}, {"a branch", ifZero(1, 4), places(2)},
		{"what gives another one", move(4, 1), places(2)},
	} {
		first := code{load(1, 0), load(2, 1), load(3, 2), x.i}
		ctrl := 0
		if x.i.Op == api.OpBranch {
			ctrl = 1
		}
		hangsAre(t, x.what, append(first[:4:4], by(3, store(0, 0))), row(5), hanging{4, x.want, 0, ctrl}, hanging{5, 0, 0, ctrl})
		hangsAre(t, x.what, append(first[:4:4], store(3, 0)), row(5), hanging{4, 0, x.want, ctrl})
		hangsAre(t, x.what, append(first[:4:4], by(3, rmw(api.FnAdd, 3, 3, 0))), row(5), hanging{4, x.want, x.want, ctrl})
		hangsAre(t, x.what, append(first[:4:4], unless(3, 5)), row(5), hanging{5, 0, 0, ctrl | x.want}, hanging{4, 0, 0, ctrl})
	}
}

func TestHangsOfChains(t *testing.T) {
	c := code{load(1, 0), move(2, 1), load(1, 1), alu(api.FnAdd, 3, 2, 1), konst(1, 0), move(4, 3), by(4, store(1, 2)), by(1, rmw(api.FnSwap, 4, 4, 0))}
	hangsAre(t, "a chain", c, row(8), hanging{6, places(0, 2), 0, 0}, hanging{7, 0, places(0, 2), 0}, hanging{8, 0, 0, 0})
	c = code{rmw(api.FnAdd, 1, 1, 0), rmw(api.FnAdd, 1, 1, 1), by(1, rmw(api.FnAdd, 2, 1, 2)), alu(api.FnXor, 3, 1, 2), by(2, load(3, 0)), store(3, 0)}
	hangsAre(t, "read-modify-writes", c, row(6), hanging{0, 0, 0, 0}, hanging{1, 0, places(0), 0}, hanging{2, places(1), places(1), 0}, hanging{4, places(2), 0, 0}, hanging{5, 0, places(4), 0})
	c = code{load(0, 0), move(7, 0), by(7, load(0, 1)), by(0, load(7, 2)), by(7, store(0, 0))}
	hangsAre(t, "the first and the last register", c, row(5), hanging{0, 0, 0, 0}, hanging{2, places(0), 0, 0}, hanging{3, places(2), 0, 0}, hanging{4, places(3), places(2), 0})
}

func TestHangsOfBranches(t *testing.T) {
	c := code{load(1, 0), ifZero(1, 3), load(2, 1), ifZero(2, 5), konst(1, 0), alu(api.FnAdd, 3, 1, 2), unless(3, 8), storeImm(1, 0)}
	hangsAre(t, "all", c, row(8), hanging{0, 0, 0, 0}, hanging{1, 0, 0, 0}, hanging{2, 0, 0, 1}, hanging{3, 0, 0, 1}, hanging{4, 0, 0, places(0, 2)}, hanging{6, 0, 0, places(0, 2)}, hanging{7, 0, 0, places(0, 2)}, hanging{8, 0, 0, places(0, 2)})
	hangsAre(t, "past the second read", c, []int{0, 1, 3, 5, 6, 7}, hanging{2, 0, 0, 1}, hanging{3, 0, 0, 1}, hanging{4, 0, 0, 1}, hanging{5, 0, 0, 1}, hanging{6, 0, 0, 1})
	c = code{load(1, 0), ifZero(1, 2), load(1, 1), ifZero(1, 4), konst(1, 5), ifZero(1, 6), store(1, 0)}
	hangsAre(t, "one register, three times", c, row(7), hanging{2, 0, 0, 1}, hanging{3, 0, 0, 1}, hanging{4, 0, 0, places(0, 2)}, hanging{5, 0, 0, places(0, 2)}, hanging{6, 0, 0, places(0, 2)}, hanging{7, 0, 0, places(0, 2)})
	c = code{ifZero(1, 1), load(1, 0), store(1, 0)}
	hangsAre(t, "a branch ahead of the read", c, row(3), hanging{2, 0, places(1), 0}, hanging{3, 0, 0, 0})
	c = code{load(1, 0), ifZero(2, 3), move(2, 1), ifZero(2, 4)}
	hangsAre(t, "given on this way", c, row(4), hanging{2, 0, 0, 0}, hanging{3, 0, 0, 0}, hanging{4, 0, 0, 1})
	hangsAre(t, "not given on that one", c, []int{0, 1, 3}, hanging{2, 0, 0, 0}, hanging{3, 0, 0, 0})
	// A branch ahead turns neither what an address nor what a datum hangs on.
	c = code{load(1, 0), ifZero(1, 3), konst(2, 1), by(2, store(2, 0))}
	hangsAre(t, "a constant behind a branch", c, row(4), hanging{3, 0, 0, 1})
}

func TestHangsOfPlaces(t *testing.T) {
	c := code{by(3, rmw(api.FnAdd, 1, 1, 0)), ifZero(1, 2), by(1, store(1, 0))}
	hangsAre(t, "the first place", c, row(3), hanging{0, 0, 0, 0})
	hangsAre(t, "the last place", c, row(3), hanging{2, 1, 1, 1})
	for _, at := range odd {
		if at < 0 {
			hangsAre(t, "below 0", c, row(3), hanging{at, 0, 0, 0})
		}
		if at > 2 {
			hangsAre(t, "at the end or beyond", c, row(3), hanging{at, 0, 0, 1})
		}
		hangsAre(t, "the empty path", nil, nil, hanging{at, 0, 0, 0})
	}
}
