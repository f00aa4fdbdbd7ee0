package flow_test

import (
	"slices"
	"testing"

	"belated/api"
	"belated/bits"
	"belated/flow"
	"belated/uir"
)

// The chapter's examples.
func TestExamples(t *testing.T) {
	c := code{load(1, 0), ifZero(1, 3), konst(2, 1)}
	paths := flow.Paths(c...)
	if !samePaths(paths, [][]int{{0, 1, 2}, {0, 1}}) {
		t.Fatalf("10.1: %v", paths)
	}
	if def, behind, ahead := flow.Def(c, paths[0], 2, 1), flow.Ctrl(c, paths[0], 2), flow.Ctrl(c, paths[0], 1); def != 0 || behind != 1 || ahead != 0 {
		t.Errorf("10.2, 10.4: %d; %d; %d", def, behind, ahead)
	}
	c = code{load(1, 0), alu(api.FnXor, 2, 1, 1), by(2, store(1, 1))}
	if addr, data := flow.Addr(c, row(3), 2), flow.Data(c, row(3), 2); addr != 1 || data != 1 {
		t.Errorf("10.4: %d; %d", addr, data)
	}
	valuesAre(t, c, row(3), file{}, asked{2, 2, []int{5}, 1, 0, true}, asked{2, 2, []int{5}, 0, 0, false})
}

// holds holds all calls but Paths against the models, on one path, at all
// places around it.
func holds(t *testing.T, c code, path []int, regs file, olds []int, known int) {
	t.Helper()
	for at := -2; at <= len(path)+2; at++ {
		for reg := -3; reg <= api.MaxRegs+1; reg++ {
			if got, want := flow.Def(c, path, at, reg), modelDef(c, path, at, reg); got != want {
				t.Fatalf("10.2: %+v, path %v, at %d, register %d: %d, want %d", c, path, at, reg, got, want)
			}
			v, ok := flow.Value(c, path, regs, at, reg, olds, known)
			if want, known := modelValue(c, path, regs, at, reg, olds, known); v != want || ok != known {
				t.Fatalf("10.3: %+v, path %v, at %d, register %d, %v: %d, %v, want %d, %v", c, path, at, reg, olds, v, ok, want, known)
			}
		}
		got := hanging{at, flow.Addr(c, path, at), flow.Data(c, path, at), flow.Ctrl(c, path, at)}
		if want := (hanging{at, modelAddr(c, path, at), modelData(c, path, at), modelCtrl(c, path, at)}); got != want {
			t.Fatalf("10.4: %+v, path %v: %+v, want %+v", c, path, got, want)
		}
	}
}

// 10.1 to 10.4, of all rows of up to three of these.
func TestSmallCodesByTheModel(t *testing.T) {
	kinds := code{
		konst(1, 4), move(1, 2), move(2, 1), alu(api.FnSub, 1, 1, 2), alu(api.FnAdd, 2, 1, 1), aluImm(api.FnXor, 1, 2, 3),
		load(1, 0), by(1, load(2, 1)), store(1, 0), by(2, store(1, 0)), by(1, storeImm(1, 0)), rmw(api.FnAdd, 1, 2, 0), by(2, rmw(api.FnSwap, 2, 1, 0)),
		fence(), ifZero(1, 0), unless(2, -1),
	}
	d := dice(102)
	for _, c := range rows(kinds, 3) {
		for at := range c {
			if c[at].Op == api.OpBranch {
				c[at].To = min(at+2+c[at].To, len(c))
			}
		}
		byTheModel(t, &d, c, held)
	}
}

// rows is all rows of up to n of these.
func rows(kinds code, n int) []code {
	out := []code{nil}
	for k := 0; k < len(out); k++ {
		if c := out[k]; len(c) < n {
			for _, i := range kinds {
				out = append(out, append(c[:len(c):len(c)], i))
			}
		}
	}
	return out
}

// byTheModel holds all calls against the models, on all paths of a right code.
func byTheModel(t *testing.T, d *dice, c code, regs file) {
	t.Helper()
	paths := flow.Paths(c...)
	if want := modelPaths(c); !samePaths(paths, want) {
		t.Fatalf("10.1: %+v: %v, want %v", c, paths, want)
	}
	for _, path := range paths {
		holds(t, c, path, regs, d.list(d.below(11)), d.among([]int{0, -1, d.wide(), d.wide(), 255}))
	}
}

// 10.1 to 10.4, of drawn codes.
func TestDrawnCodesByTheModel(t *testing.T) {
	d := dice(103)
	for range 12000 {
		byTheModel(t, &d, d.code(), d.file())
	}
}

// What a code comes to by itself is what is told of the path that it goes: the
// registers at its end, its events' footprints and data, the ways of branches.
func TestValuesAreThoseOfRuns(t *testing.T) {
	d := dice(104)
	for range 12000 {
		c, regs := d.code(), d.file()
		out, events, path, e := uir.Local(c, regs, d.list(api.MaxOps)...)
		if e != api.OK {
			t.Fatalf("%+v is refused: %d", c, e)
		}
		if !slices.ContainsFunc(flow.Paths(c...), func(p []int) bool { return slices.Equal(p, path) }) {
			t.Fatalf("10.1: %+v: %v is gone, and no path", c, path)
		}
		olds, known := make([]int, len(path)), 0
		for _, ev := range events {
			if ev.Reads {
				olds[ev.Pos], known = ev.Old, known|1<<ev.Pos
			}
		}
		value := func(at, reg int) int {
			v, ok := flow.Value(c, path, regs, at, reg, olds, known)
			if !ok {
				t.Fatalf("10.5: %+v, path %v: register %d ahead of %d is not known", c, path, reg, at)
			}
			return v
		}
		for reg, want := range out {
			if v := value(len(path), reg); v != want {
				t.Fatalf("10.3: %+v, path %v: register %d is %d, want %d", c, path, reg, v, want)
			}
		}
		for _, ev := range events {
			eventIs(t, c[ev.At], ev, func(reg int) int { return value(ev.Pos, reg) })
		}
		for p, at := range path {
			if i := c[at]; i.Op == api.OpBranch {
				next := append(path[:len(path):len(path)], len(c))[p+1]
				if goes := (value(p, i.A) == 0) == i.Zero; goes && next != i.To || !goes && next != at+1 {
					t.Fatalf("10.3: %+v, path %v: the branch at %d asks for %d", c, path, p, value(p, i.A))
				}
			}
		}
	}
}

// eventIs holds what is told of an event against the values of registers ahead
// of it. (-1 for a register is 0: so an Index that is none adds nothing.)
func eventIs(t *testing.T, i api.Ins, ev api.Event, of func(reg int) int) {
	t.Helper()
	if !ev.Reads && !ev.Writes {
		return
	}
	if mask := bits.Mask(bits.Place(i.Off, of(i.Index), i.Size), i.Size); mask != ev.Span.Mask {
		t.Fatalf("10.3: %+v lies at %b, want %b", i, mask, ev.Span.Mask)
	}
	written := bits.Get(of(i.A)+i.Imm, 0, i.Size)
	if i.Op == api.OpRmw {
		written = bits.Rmw(i.Fn, ev.Old, of(i.A), i.Size)
	}
	if ev.Writes && written != ev.New {
		t.Fatalf("10.3: %+v writes %d, want %d", i, written, ev.New)
	}
}

// 10.5: of all addresses, data and branches of drawn codes.
func TestKnownIfReadsAre(t *testing.T) {
	d := dice(105)
	most := 0
	for range 4000 {
		c := d.code()
		for _, path := range flow.Paths(c...) {
			for p, at := range path {
				i := c[at]
				switch {
				case i.Op == api.OpBranch:
					// Ctrl of the code up to there without its other branches is this one's own.
					alone := slices.Clone(c)
					for k := range alone {
						if k != at && alone[k].Op == api.OpBranch {
							alone[k] = isb()
						}
					}
					follows(t, &d, c, path, p, i.A, flow.Ctrl(alone, path, p+1))
				case uir.Ops(i) == 1:
					follows(t, &d, c, path, p, i.Index, flow.Addr(c, path, p))
					most = max(most, bits.Count(flow.Data(c, path, p)))
				}
				if uir.Writes(i) {
					follows(t, &d, c, path, p, i.A, flow.Data(c, path, p))
				}
			}
		}
	}
	if most < 2 {
		t.Errorf("drawn too thin: no datum hangs on more than %d reads", most)
	}
}

// follows holds of a register that hangs on these reads: it is known just if
// they are, and it does not turn with what others come to.
func follows(t *testing.T, d *dice, c code, path []int, at, reg, reads int) {
	t.Helper()
	regs, olds := d.file(), d.list(len(path))
	want, ok := flow.Value(c, path, regs, at, reg, olds, reads)
	if !ok {
		t.Fatalf("10.5: %+v, path %v: register %d ahead of %d hangs on %b, and is not known", c, path, reg, at, reads)
	}
	other := d.list(len(path) + d.below(3))
	for p := range olds {
		if reads>>p&1 == 1 {
			other[p] = olds[p]
		}
	}
	for known := range 1 << len(path) {
		v, ok := flow.Value(c, path, regs, at, reg, other, known)
		if all := reads&^known == 0; ok != all || all && v != want || !all && v != 0 {
			t.Fatalf("10.5: %+v, path %v: register %d ahead of %d hangs on %b; with %b it is %d, %v, want %d", c, path, reg, at, reads, known, v, ok, want)
		}
	}
	if v, ok := flow.Value(c, path, regs, at, reg, nil, 0); reads == 0 && (v != want || !ok) {
		t.Fatalf("10.5: %+v, path %v: register %d ahead of %d hangs on nothing, and is %d, %v, want %d", c, path, reg, at, v, ok, want)
	}
}

// 10.4: hanging is by the instructions alone: numbers turn nothing.
func TestHangsWhateverTheNumbers(t *testing.T) {
	d := dice(106)
	for range 3000 {
		c := d.code()
		other := slices.Clone(c)
		for at, i := range other {
			if i.Op == api.OpConst || i.Op == api.OpAlu && i.B == -1 || i.Op == api.OpStore && i.A == -1 {
				other[at].Imm = d.wide()
			}
			if i.Op == api.OpAlu {
				other[at].Fn = 1 + d.below(5)
			}
		}
		for _, path := range flow.Paths(c...) {
			for at := range len(path) + 1 {
				hangsAre(t, "with other numbers", other, path, hanging{at, flow.Addr(c, path, at), flow.Data(c, path, at), flow.Ctrl(c, path, at)})
			}
		}
	}
}

// roomy is a list with room behind it that holds something.
func roomy[T any](list []T, behind T) (part, whole []T) {
	whole = append(slices.Clone(list), behind, behind, behind)
	return whole[:len(list)], whole
}

// all calls every call; it answers nothing, so that only panics and what does
// not end show.
func all(c code, path []int, regs file, at, reg int, olds []int, known int) {
	flow.Paths(c...)
	flow.Def(c, path, at, reg)
	flow.Value(c, path, regs, at, reg, olds, known)
	flow.Addr(c, path, at)
	flow.Data(c, path, at)
	flow.Ctrl(c, path, at)
}

// R1, R3: what is handed in stays as it was, and the room behind it; nothing
// is kept, and what lies behind a list is not looked at.
func TestKeepsArguments(t *testing.T) {
	d := dice(107)
	for range 2000 {
		right := d.code()
		paths := modelPaths(right)
		path := paths[d.below(len(paths))]
		olds := d.list(d.below(9))
		c, wholeC := roomy(right, konst(1, 77))
		p, wholeP := roomy(path, 0)
		o, wholeO := roomy(olds, 88)
		wasC, wasP, wasO := slices.Clone(wholeC), slices.Clone(wholeP), slices.Clone(wholeO)
		regs := d.file()
		for range 2 {
			for at := range len(path) + 2 {
				all(c, p, regs, at, d.below(8), o, d.wide())
			}
			holds(t, c, p, regs, o, d.wide())
		}
		if got := flow.Paths(c...); !samePaths(got, paths) {
			t.Fatalf("R1: Paths of %+v: %v, want %v", c, got, paths)
		}
		if !slices.Equal(wholeC, wasC) || !slices.Equal(wholeP, wasP) || !slices.Equal(wholeO, wasO) {
			t.Fatalf("R3: a list was written to: %+v, %v, %v", wholeC, wholeP, wholeO)
		}
	}
}

// any draws an instruction that may be or not.
func (d *dice) any() api.Ins {
	num := func() int { return d.among(odd) }
	flag := func() bool { return d.below(2) == 0 }
	i := api.Ins{Op: d.below(11), Dst: d.below(10) - 1, A: d.below(10) - 1, B: d.below(10) - 1, Index: d.below(10) - 1, Fn: d.below(8), To: d.below(10) - 1, Size: d.below(9), Imm: num(), Zero: flag()}
	for _, field := range []*int{&i.Op, &i.Dst, &i.A, &i.B, &i.Index, &i.Fn, &i.To, &i.Size, &i.Loc, &i.Off, &i.Pred, &i.Succ} {
		if d.below(8) == 0 {
			*field = num()
		}
	}
	i.Acq, i.Weak, i.Rel = flag(), flag(), flag()
	return i
}

// R6: no call panics, of codes and paths that are none.
func TestWrongInputs(t *testing.T) {
	d := dice(108)
	for range 60000 {
		c := make(code, d.below(12))
		for at := range c {
			c[at] = d.any()
			if d.below(3) == 0 {
				c[at] = d.ins(at, len(c))
			}
		}
		path := make([]int, d.below(80))
		for p := range path {
			path[p] = d.below(12)
			if d.below(6) == 0 {
				path[p] = d.among(odd)
			}
		}
		olds := d.list(d.below(90))
		for range 4 {
			all(c, path, d.file(), d.among(odd), d.among(odd), olds, d.among([]int{0, -1, d.wide()}))
			all(c, path, d.file(), d.below(len(path)+1), d.below(8), olds, d.wide())
		}
	}
}

// A right code with a path that is none of it, a wrong code with a path of
// another one.
func TestWrongPaths(t *testing.T) {
	c := code{load(1, 0), alu(api.FnXor, 2, 1, 1), by(2, store(1, 1)), ifZero(2, 4)}
	for _, path := range [][]int{nil, {}, {4}, {-1}, {5, -5, 4}, {3, 2, 1, 0}, {0, 0, 0, 0}, odd, {2}, {3}, {0, 1, 2, 3, 4, 5, 6, 7, 8}} {
		for _, at := range odd {
			for _, reg := range odd {
				all(c, path, held, at, reg, []int{1, 2}, -1)
				all(nil, path, held, at, reg, nil, -1)
			}
		}
	}
}

// R8: each ends, however often registers are used twice on a path, however
// branches go.
func TestEnds(t *testing.T) {
	long := make([]int, 200000)
	for _, i := range []api.Ins{alu(api.FnAdd, 1, 1, 1), alu(api.FnXor, 1, 1, 2), move(1, 1), aluImm(api.FnAdd, 1, 1, 1), rmw(api.FnAdd, 1, 1, 0), by(1, rmw(api.FnAdd, 1, 1, 0)), ifZero(1, 1), ifZero(1, 0)} {
		c := code{i, by(1, store(1, 0)), ifZero(1, 3)}
		path := append(slices.Clone(long), 1, 2)
		for _, at := range []int{len(long), len(long) + 1, len(path), len(path) + 1, 100} {
			for _, reg := range []int{1, 2, 3} {
				all(c, path, held, at, reg, long, -1)
			}
		}
	}
	twins := slices.Repeat(code{alu(api.FnAdd, 1, 2, 2), alu(api.FnAdd, 2, 1, 1)}, 200)
	all(append(twins, store(2, 0)), row(401), held, 400, 2, nil, 0)
	for _, n := range []int{4, 9, 64, 1000} {
		for _, to := range []int{-1, 0, 1, 2, n, n + 1} {
			ring, fan := slices.Repeat(code{ifZero(1, to)}, n), make(code, n)
			for at := range fan {
				fan[at] = ifZero(1, at+2)
			}
			all(ring, row(n), held, n, 1, nil, 0)
			all(fan, row(n), held, n, 1, nil, 0)
		}
	}
	all(code{ifZero(1, 0)}, []int{0, 0}, held, 2, 1, nil, 0)
	all(code{konst(1, 1), ifZero(1, 0)}, []int{0, 1, 0, 1}, held, 4, 1, nil, 0)
	all(slices.Repeat(code{load(1, 0)}, api.MaxOps+1), row(7), held, 7, 1, row(7), -1)
	all(slices.Repeat(code{konst(1, 0)}, api.MaxCode+1), row(9), held, 9, 1, nil, 0)
}
