package cand

import (
	"belated/api"
	"belated/flow"
	"belated/uir"
)

// op is a memory operation on a path.
type op struct {
	ins    api.Ins
	thread int
	place  int
	event  int // its number in a Run
	needs  int // the reads that its address and its datum hang on: a bit an operation
}

// scene is a test with a path of each thread: what all rows of the memory
// operations on these paths have in common.
type scene struct {
	test  api.Test
	picks [api.MaxThreads]int
	paths [][]int
	ops   []op // thread by thread, along the paths
}

// choices are all ways to pick a path of each thread, by the paths' numbers.
func choices(codes [][]api.Ins) [][api.MaxThreads]int {
	all := [][api.MaxThreads]int{{}}
	for thread, code := range codes {
		var more [][api.MaxThreads]int
		for _, picks := range all {
			for n := range flow.Paths(code...) {
				picks[thread] = n
				more = append(more, picks)
			}
		}
		all = more
	}
	return all
}

func newScene(t api.Test, picks [api.MaxThreads]int) *scene {
	s := &scene{test: t, picks: picks}
	events := 0
	for thread, code := range t.Code {
		path := flow.Paths(code...)[picks[thread]]
		s.paths = append(s.paths, path)
		for place, at := range path {
			i := code[at]
			if uir.Reads(i) || uir.Writes(i) {
				hangs := flow.Addr(code, path, place) | flow.Data(code, path, place)
				s.ops = append(s.ops, op{i, thread, place, events, s.opsAt(thread, hangs)})
			}
			if isEvent(i) {
				events++
			}
		}
	}
	return s
}

// opsAt are the operations at these places of a thread: a bit an operation.
func (s *scene) opsAt(thread, places int) int {
	ops := 0
	for k, o := range s.ops {
		if o.thread == thread && places>>o.place&1 == 1 {
			ops |= 1 << k
		}
	}
	return ops
}

// ahead tells whether operation a stands ahead of b on the path of both.
func (s *scene) ahead(a, b int) bool {
	return s.ops[a].thread == s.ops[b].thread && s.ops[a].place < s.ops[b].place
}

// rows goes through all rows that begin so, one by one, in which each operation
// stands behind those that it needs (a); laid has a bit an operation of row.
// What is visited holds until the next one is.
func (s *scene) rows(row []int, laid int, visit func(row []int)) {
	if len(row) == len(s.ops) {
		visit(row)
		return
	}
	for k, o := range s.ops {
		if laid>>k&1 == 0 && o.needs&^laid == 0 {
			s.rows(append(row, k), laid|1<<k, visit)
		}
	}
}

// runs are the Runs of all rows that make a candidate. Rows that differ only
// in what no Run tells come to one.
func (s *scene) runs() []api.Run {
	var runs []api.Run
	seen := map[sight]struct{}{}
	s.rows(nil, 0, func(row []int) {
		p := newPlay(s, row)
		if !p.holds() {
			return
		}
		if _, again := seen[p.sight]; again {
			return
		}
		seen[p.sight] = struct{}{}
		if r, ok := p.run(); ok {
			runs = append(runs, r)
		}
	})
	return runs
}

func isEvent(i api.Ins) bool {
	return uir.Reads(i) || uir.Writes(i) || i.Op == api.OpFence || i.Op == api.OpIsb
}
