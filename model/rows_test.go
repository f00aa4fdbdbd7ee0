package model_test

import (
	"maps"
	"slices"
	"testing"

	"belated/api"
	"belated/cond"
)

// The tests hold what RISC-V and Arm allow against 13.3: all paths, all rows of
// the memory operations there (11.1) in which preserved order goes forward. No
// package of the project but cond has a part in it.

// deed is a memory operation on a path; what it hangs on is told by deeds.
type deed struct {
	i             api.Ins
	thread, place int
	addr, data    []int
}

// rowing is a path of each thread and a row of the deeds there, gone through
// from its beginning on.
type rowing struct {
	t     api.Test
	paths [][]int
	deeds []deed
	at    []int            // by deed: where it stands in the row
	offs  []int            // by deed: where it lies; -1 as long as that is not known
	from  []map[int]int    // by deed that reads, by byte: its source; -1 for Init
	olds  map[[2]int]int   // by thread and place: what was read
	ctrl  map[[2]int][]int // by thread and place: the deeds that branches ahead hang on
}

// outcomesOfRows is what all rows come to.
func outcomesOfRows(t api.Test) []api.Outcome {
	out := map[api.Outcome]bool{}
	var choose func(paths [][]int)
	choose = func(paths [][]int) {
		if len(paths) == len(t.Code) {
			r := &rowing{t: t, paths: paths, ctrl: map[[2]int][]int{}}
			r.gather()
			arrange(nil, len(r.deeds), func(row []int) {
				if r.goes(row) {
					out[r.outcome(row)] = true
				}
			})
			return
		}
		for _, p := range pathsFrom(t.Code[len(paths)], 0) {
			choose(append(paths[:len(paths):len(paths)], p))
		}
	}
	choose(nil)
	return cond.Sort(slices.Collect(maps.Keys(out))...)
}

// pathsFrom is all paths from an index on.
func pathsFrom(c code, at int) [][]int {
	if at >= len(c) {
		return [][]int{nil}
	}
	nexts := []int{at + 1}
	if c[at].Op == api.OpBranch && c[at].To != at+1 {
		nexts = append(nexts, c[at].To)
	}
	var out [][]int
	for _, next := range nexts {
		for _, rest := range pathsFrom(c, next) {
			out = append(out, append([]int{at}, rest...))
		}
	}
	return out
}

// arrange hands out all rows of n deeds that begin so.
func arrange(row []int, n int, each func(row []int)) {
	if len(row) == n {
		each(row)
		return
	}
	for k := range n {
		if !slices.Contains(row, k) {
			arrange(append(row[:len(row):len(row)], k), n, each)
		}
	}
}

func (r *rowing) ins(thread, place int) api.Ins { return r.t.Code[thread][r.paths[thread][place]] }

func (r *rowing) gather() {
	for thread, path := range r.paths {
		var asked []int
		for place := range path {
			r.ctrl[[2]int{thread, place}] = slices.Clone(asked)
			i := r.ins(thread, place)
			if i.Op == api.OpBranch {
				asked = append(asked, r.hangs(thread, place, i.A)...)
			}
			if !reads(i) && !writes(i) {
				continue
			}
			d := deed{i: i, thread: thread, place: place, addr: r.hangs(thread, place, i.Index)}
			if writes(i) {
				d.data = r.hangs(thread, place, i.A)
			}
			r.deeds = append(r.deeds, d)
		}
	}
}

// given is the place ahead that gives a register its value; -1 if none does.
func (r *rowing) given(thread, place, reg int) int {
	for p := place - 1; p >= 0; p-- {
		if r.ins(thread, p).Dst == reg {
			return p
		}
	}
	return -1
}

// hangs is the deeds that a register hangs on ahead of a place.
func (r *rowing) hangs(thread, place, reg int) []int {
	if reg < 0 {
		return nil
	}
	p := r.given(thread, place, reg)
	if p < 0 {
		return nil
	}
	switch i := r.ins(thread, p); i.Op {
	case api.OpConst:
		return nil
	case api.OpMove, api.OpAlu:
		return append(r.hangs(thread, p, i.A), r.hangs(thread, p, i.B)...)
	}
	return []int{slices.IndexFunc(r.deeds, func(d deed) bool { return d.thread == thread && d.place == p })}
}

// value is what a register holds ahead of a place. What it hangs on must have
// been gone through.
func (r *rowing) value(thread, place, reg int) int {
	p := r.given(thread, place, reg)
	if p < 0 {
		return r.t.Regs[thread][reg]
	}
	i := r.ins(thread, p)
	switch i.Op {
	case api.OpConst:
		return i.Imm
	case api.OpMove:
		return r.value(thread, p, i.A)
	case api.OpAlu:
		b := i.Imm
		if i.B >= 0 {
			b = r.value(thread, p, i.B)
		}
		return computed(i.Fn, r.value(thread, p, i.A), b)
	}
	return r.olds[[2]int{thread, p}]
}

// goes goes through a row, and tells whether it makes a candidate in which
// preserved order goes forward.
func (r *rowing) goes(row []int) bool {
	n := len(row)
	r.at, r.offs, r.from, r.olds = make([]int, n), slices.Repeat([]int{-1}, n), make([]map[int]int, n), map[[2]int]int{}
	for at, k := range row {
		r.at[k] = at
	}
	for _, k := range row {
		for _, h := range slices.Concat(r.deeds[k].addr, r.deeds[k].data) {
			if r.at[h] > r.at[k] {
				return false // (a)
			}
		}
		r.place(k)
		r.read(k)
	}
	return r.isCandidate() && r.goesForward()
}

// place finds out where a deed lies, if all that its address hangs on stands
// ahead of the deed that is gone through.
func (r *rowing) place(k int) {
	d, index := r.deeds[k], 0
	if d.i.Index >= 0 {
		index = r.value(d.thread, d.place, d.i.Index)
	}
	r.offs[k] = spot(d.i, index)
}

// ready tells whether all that a deed's address and datum hang on stands ahead
// of deed k.
func (r *rowing) ready(w, k int) bool {
	return !slices.ContainsFunc(slices.Concat(r.deeds[w].addr, r.deeds[w].data), func(h int) bool { return r.at[h] >= r.at[k] })
}

func (r *rowing) touches(k, loc, b int) bool {
	return r.deeds[k].i.Loc == loc && r.offs[k] >= 0 && b >= r.offs[k] && b < r.offs[k]+r.deeds[k].i.Size
}

// ahead tells whether a stands ahead of b on the path of both.
func (r *rowing) ahead(a, b int) bool {
	return r.deeds[a].thread == r.deeds[b].thread && r.deeds[a].place < r.deeds[b].place
}

// source is (b), by the deeds of which it is known where they lie.
func (r *rowing) source(k, b int) int {
	last := -1
	for w, d := range r.deeds {
		if writes(d.i) && r.touches(w, r.deeds[k].i.Loc, b) && (r.at[w] < r.at[k] || r.ahead(w, k)) && (last < 0 || r.at[w] > r.at[last]) {
			last = w
		}
	}
	return last
}

// read lets a deed take its bytes.
func (r *rowing) read(k int) {
	d := r.deeds[k]
	if !reads(d.i) {
		return
	}
	for w := range r.deeds {
		if r.ahead(w, k) && r.ready(w, k) {
			r.place(w)
		}
	}
	r.from[k] = map[int]int{}
	v := r.t.Init[d.i.Loc]
	for b := r.offs[k]; b < r.offs[k]+d.i.Size; b++ {
		w := r.source(k, b)
		r.from[k][b] = w
		if w >= 0 {
			v = laid(v, b, 1, r.written(w)>>(8*(b-r.offs[w])))
		}
	}
	r.olds[[2]int{d.thread, d.place}] = low(v>>(8*r.offs[k]), d.i.Size)
}

func (r *rowing) written(w int) int {
	d := r.deeds[w]
	v := d.i.Imm
	if d.i.A >= 0 {
		v = r.value(d.thread, d.place, d.i.A)
	}
	if d.i.Op == api.OpRmw {
		v = computed(d.i.Fn, r.olds[[2]int{d.thread, d.place}], v)
	}
	return low(v, d.i.Size)
}

func (r *rowing) isCandidate() bool {
	for k := range r.deeds {
		for b, w := range r.from[k] {
			if r.source(k, b) != w {
				return false // (c): the source's address was not known
			}
			if w >= 0 && r.at[w] > r.at[k] && (r.deeds[w].i.Op == api.OpRmw || !r.ready(w, k)) {
				return false // (c)
			}
		}
		for a := range r.deeds {
			if writes(r.deeds[k].i) && r.ahead(a, k) && r.meets(a, k) && r.at[a] > r.at[k] {
				return false // (d)
			}
		}
	}
	for thread, path := range r.paths {
		for place, index := range path {
			i := r.ins(thread, place)
			next := append(slices.Clone(path), len(r.t.Code[thread]))[place+1]
			if i.Op != api.OpBranch {
				continue
			}
			if goes := (r.value(thread, place, i.A) == 0) == i.Zero; goes && next != i.To || !goes && next != index+1 {
				return false // (e)
			}
		}
	}
	return true
}

// common is the bytes that two deeds touch.
func (r *rowing) common(a, b int) []int {
	var out []int
	for at := range 8 {
		if r.touches(a, r.deeds[b].i.Loc, at) && r.touches(b, r.deeds[b].i.Loc, at) {
			out = append(out, at)
		}
	}
	return out
}

func (r *rowing) meets(a, b int) bool { return len(r.common(a, b)) > 0 }

func (r *rowing) goesForward() bool {
	for b := range r.deeds {
		for a := range r.deeds {
			if r.ahead(a, b) && r.at[a] > r.at[b] && r.preserved(a, b) {
				return false
			}
		}
	}
	return true
}

// preserved is what 13.1 keeps in order of two deeds, the first one ahead of
// the other on their path.
func (r *rowing) preserved(a, b int) bool {
	c, d := r.deeds[a], r.deeds[b]
	switch {
	case writes(d.i) && r.meets(a, b), r.anew(a, b), c.i.Op == api.OpRmw && r.takes(b, a):
		return true
	case c.i.Acq, c.i.Weak, d.i.Rel, c.i.Rel && d.i.Acq:
		return true
	case slices.Contains(d.addr, a), slices.Contains(d.data, a):
		return true
	case writes(d.i) && slices.Contains(r.ctrl[[2]int{d.thread, d.place}], a):
		return true
	}
	for m, between := range r.deeds {
		if !r.ahead(m, b) {
			continue
		}
		if slices.Contains(between.addr, a) && (writes(d.i) || r.takes(b, m)) || slices.Contains(between.data, a) && r.takes(b, m) {
			return true
		}
	}
	for place := c.place + 1; place < d.place; place++ {
		f := r.ins(c.thread, place)
		if f.Op == api.OpFence && fits(f.Pred, c.i) && fits(f.Succ, d.i) || f.Op == api.OpIsb && reads(d.i) && r.settled(a, place) {
			return true
		}
	}
	return false
}

// fits tells whether a side of a fence speaks of an instruction.
func fits(side int, i api.Ins) bool {
	return reads(i) && side&api.FenceR != 0 || writes(i) && side&api.FenceW != 0
}

// takes tells whether a byte of b comes from w.
func (r *rowing) takes(b, w int) bool {
	return slices.Contains(slices.Collect(maps.Values(r.from[b])), w)
}

// anew is corr.
func (r *rowing) anew(a, b int) bool {
	if !reads(r.deeds[a].i) || !reads(r.deeds[b].i) {
		return false
	}
	return slices.ContainsFunc(r.common(a, b), func(at int) bool {
		for w, d := range r.deeds {
			if writes(d.i) && r.ahead(a, w) && r.ahead(w, b) && r.touches(w, r.deeds[b].i.Loc, at) {
				return false
			}
		}
		return r.from[a][at] != r.from[b][at]
	})
}

// settled tells whether a branch or an address ahead of a place hangs on a.
func (r *rowing) settled(a, place int) bool {
	thread := r.deeds[a].thread
	return slices.Contains(r.ctrl[[2]int{thread, place}], a) || slices.ContainsFunc(r.deeds, func(m deed) bool {
		return m.thread == thread && m.place < place && slices.Contains(m.addr, a)
	})
}

func (r *rowing) outcome(row []int) api.Outcome {
	o := api.Outcome{Mem: r.t.Init}
	for thread, path := range r.paths {
		for reg := range api.MaxRegs {
			o.Regs[thread][reg] = r.value(thread, len(path), reg)
		}
	}
	for _, w := range row {
		if d := r.deeds[w]; writes(d.i) {
			o.Mem[d.i.Loc] = laid(o.Mem[d.i.Loc], r.offs[w], d.i.Size, r.written(w))
		}
	}
	return o
}

// 13.3, of drawn tests.
func TestRows(t *testing.T) {
	t.Parallel()
	for n, arch := range loose {
		most := 0
		many(t, 400+n, 4, arch, func(x api.Test) {
			got, want := allowed(t, x), outcomesOfRows(x)
			if !slices.Equal(got, want) {
				t.Fatalf("13.3: of %+v:\n got %v\nwant %v", x, got, want)
			}
			most = max(most, len(got))
		})
		if most < 10 {
			t.Errorf("drawn too thin: no test has more than %d outcomes", most)
		}
	}
}
