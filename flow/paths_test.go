package flow_test

import (
	"slices"
	"testing"

	"belated/api"
	"belated/flow"
	"belated/uir"
)

func samePaths(a, b [][]int) bool {
	return slices.EqualFunc(a, b, func(p, q []int) bool { return slices.Equal(p, q) })
}

func pathsAre(t *testing.T, what string, c code, want ...[]int) {
	t.Helper()
	if got := flow.Paths(c...); !samePaths(got, want) {
		t.Errorf("10.1: %s: %v, want %v", what, got, want)
	}
}

// 10.1

func TestPathsWithoutABranch(t *testing.T) {
	pathsAre(t, "no code, nil", nil, nil)
	pathsAre(t, "no code", code{}, nil)
	for _, i := range []api.Ins{konst(0, 1), move(0, 1), alu(1, 0, 1, 2), load(0, 0), store(0, 0), storeImm(1, 0), rmw(api.FnAdd, 0, 1, 2), fence(), isb()} {
		pathsAre(t, "one instruction", code{i}, []int{0})
		pathsAre(t, "two", code{i, i}, []int{0, 1})
	}
	pathsAre(t, "MaxCode instructions", slices.Repeat(code{konst(0, 1)}, api.MaxCode), row(8))
	pathsAre(t, "MaxOps memory operations", slices.Repeat(code{rmw(api.FnAdd, 0, 1, 2)}, api.MaxOps), row(6))
}

func TestPathsOfBranches(t *testing.T) {
	c := konst(5, 1)
	for _, x := range []struct {
		what string
		code code
		want [][]int
	}{
		{"to the next index, which is the end", code{ifZero(0, 1)}, [][]int{{0}}},
		{"to the next index", code{unless(0, 1), c}, [][]int{{0, 1}}},
		{"to the end", code{unless(0, 2), c}, [][]int{{0, 1}, {0}}},
		{"between", code{c, ifZero(0, 3), c, c}, [][]int{{0, 1, 2, 3}, {0, 1, 3}}},
		{"at the last index", code{c, ifZero(0, 2)}, [][]int{{0, 1}}},
		{"over all of MaxCode", code{ifZero(0, 8), c, c, c, c, c, c, c}, [][]int{row(8), {0}}},
		{"two, one behind the other", code{ifZero(0, 2), c, ifZero(0, 4), c}, [][]int{{0, 1, 2, 3}, {0, 1, 2}, {0, 2, 3}, {0, 2}}},
		{"two that meet again", code{ifZero(0, 3), ifZero(1, 3), c, c}, [][]int{{0, 1, 2, 3}, {0, 1, 3}, {0, 3}}},
		{"two that cross", code{ifZero(0, 2), ifZero(1, 4), c, c, c}, [][]int{{0, 1, 2, 3, 4}, {0, 1, 4}, {0, 2, 3, 4}}},
		{"one within another", code{ifZero(0, 4), ifZero(1, 3), c, c, c}, [][]int{{0, 1, 2, 3, 4}, {0, 1, 3, 4}, {0, 4}}},
		{"one to the other", code{ifZero(0, 2), c, unless(1, 4), c}, [][]int{{0, 1, 2, 3}, {0, 1, 2}, {0, 2, 3}, {0, 2}}},
		{"three, all to the end", code{ifZero(0, 3), ifZero(0, 3), ifZero(0, 3)}, [][]int{{0, 1, 2}, {0, 1}, {0}}},
		{"three to the next index", code{ifZero(0, 1), ifZero(0, 2), ifZero(0, 3)}, [][]int{{0, 1, 2}}},
		{"three, one behind the other", code{ifZero(0, 2), c, ifZero(1, 4), c, ifZero(2, 6), c}, [][]int{
			{0, 1, 2, 3, 4, 5}, {0, 1, 2, 3, 4}, {0, 1, 2, 4, 5}, {0, 1, 2, 4}, {0, 2, 3, 4, 5}, {0, 2, 3, 4}, {0, 2, 4, 5}, {0, 2, 4}}},
		{"three, the first past the second", code{ifZero(0, 3), ifZero(1, 5), c, ifZero(2, 5), c, c}, [][]int{
			{0, 1, 2, 3, 4, 5}, {0, 1, 2, 3, 5}, {0, 1, 5}, {0, 3, 4, 5}, {0, 3, 5}}},
	} {
		pathsAre(t, x.what, x.code, x.want...)
		for at := range x.code {
			other := slices.Clone(x.code)
			other[at].Zero = other[at].Op == api.OpBranch && !other[at].Zero
			pathsAre(t, x.what+", whatever is asked", other, x.want...)
		}
	}
}

// All codes of constants and at most three branches: paths hang on nothing
// else.
func TestPathsByTheModel(t *testing.T) {
	for n := range api.MaxCode + 1 {
		c := slices.Repeat(code{konst(0, 0)}, n)
		allBranches(c, 0, api.MaxBranches, func() {
			pathsAre(t, "a model's code", c, modelPaths(c)...)
		})
	}
}

// allBranches lays up to so many branches into c, from an index on, in all
// ways.
func allBranches(c code, from, most int, each func()) {
	each()
	if most == 0 {
		return
	}
	for at := from; at < len(c); at++ {
		was := c[at]
		for to := at + 1; to <= len(c); to++ {
			c[at] = ifZero(1, to)
			allBranches(c, at+1, most-1, each)
		}
		c[at] = was
	}
}

// Where each branch asks a register of its own that nothing gives, runs go all
// the paths and no other.
func TestPathsAreThoseOfRuns(t *testing.T) {
	d := dice(101)
	for range 3000 {
		c := d.code()
		asks := 4
		for at := range c {
			if c[at].Op == api.OpBranch {
				c[at].A = asks
				asks++
			}
		}
		var went [][]int
		for ways := range 8 {
			regs := file{4: ways & 1, 5: ways >> 1 & 1, 6: ways >> 2}
			_, _, path, e := uir.Local(c, regs, make([]int, api.MaxOps)...)
			if e != api.OK {
				t.Fatalf("%+v is refused: %d", c, e)
			}
			went = append(went, path)
		}
		got := flow.Paths(c...)
		slices.SortFunc(got, slices.Compare)
		slices.SortFunc(went, slices.Compare)
		if went = slices.CompactFunc(went, slices.Equal); !samePaths(got, went) {
			t.Fatalf("10.1: %+v: the paths are %v, runs go %v", c, got, went)
		}
	}
}

// R3: paths are new memory, the room behind them too.
func TestPathsAreNew(t *testing.T) {
	c := code{ifZero(0, 2), konst(5, 1), ifZero(1, 4), konst(5, 1), ifZero(2, 6), konst(5, 1)}
	want := modelPaths(c)
	first := flow.Paths(c...)
	for k := range first {
		whole := first[k][:cap(first[k])]
		for n := range whole {
			whole[n] = -77 - k
		}
		for n := k + 1; n < len(first); n++ {
			if !slices.Equal(first[n], want[n]) {
				t.Fatalf("R3: path %d turned into %v when path %d was written to", n, first[n], k)
			}
		}
	}
	for k, p := range first {
		for _, v := range p[:cap(p)] {
			if v != -77-k {
				t.Fatalf("R3: path %d shares memory with another one: %v", k, p[:cap(p)])
			}
		}
	}
	all := first[:cap(first)]
	clear(all)
	pathsAre(t, "after all was written to", c, want...)
}
