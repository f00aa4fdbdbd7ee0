package flat

import (
	"slices"

	"belated/api"
	"belated/flow"
	"belated/uir"
)

// core is the threads of a test with all that they may choose: what all states
// have in common. Nothing writes into it: a machine and its Twins share it.
type core struct {
	regs   [api.MaxThreads][api.MaxRegs]int
	routes [][]route // by thread, by the paths' numbers
}

// newCore is that of a right test. A test whose codes may not be has no threads
// here: a state's arrays have room for what a right one has.
func newCore(t api.Test) *core {
	c := &core{regs: t.Regs}
	if _, _, e := uir.Check(t.Code...); e != api.OK {
		return c
	}
	for _, code := range t.Code {
		code = slices.Clone(code)
		var routes []route
		for _, path := range flow.Paths(code...) {
			routes = append(routes, newRoute(code, path))
		}
		c.routes = append(c.routes, routes)
	}
	return c
}

// choices is a move for each path of a thread.
func (c *core) choices(thread int) []api.Move {
	var moves []api.Move
	for n := range c.routes[thread] {
		moves = append(moves, api.Move{Kind: api.MovePath, Thread: thread, N: n})
	}
	return moves
}

// route is a path through a code, with what does not hang on values.
type route struct {
	code []api.Ins
	path []int
	ops  []op // its memory operations, along it
}

// op is a memory operation of a route. What it hangs on and waits for are
// operations ahead of it there: a bit a place.
type op struct {
	ins   api.Ins
	place int
	at    int // its index
	addr  int // the reads that its address hangs on
	data  int // the reads that its datum hangs on
	waits int // what must be performed ahead of it, wherever it goes
}

func newRoute(code []api.Ins, path []int) route {
	r := route{code: code, path: path}
	for place, at := range path {
		i := code[at]
		if !uir.Reads(i) && !uir.Writes(i) {
			continue
		}
		o := op{ins: i, place: place, at: at, addr: flow.Addr(code, path, place), data: flow.Data(code, path, place)}
		o.waits = r.waits(o)
		r.ops = append(r.ops, o)
	}
	return r
}

// waits is what of 17.2 hangs on no footprint, of an operation that comes
// behind those of the route so far.
func (r route) waits(o op) int {
	waits := o.addr | o.data | r.marked(o) | r.fenced(o)
	if uir.Writes(o.ins) {
		waits |= r.settled(o.place)
	}
	if uir.Reads(o.ins) {
		waits |= r.fetched(o)
	}
	return waits
}

// settled is the reads on which it hangs where all branches ahead of a place go
// and all operations ahead of it lie.
func (r route) settled(place int) int {
	reads := flow.Ctrl(r.code, r.path, place)
	for _, j := range r.ops {
		if j.place < place {
			reads |= j.addr
		}
	}
	return reads
}

// marked is what an operation waits for by Acq, Weak and Rel.
func (r route) marked(o op) int {
	waits := 0
	for _, j := range r.ops {
		if j.ins.Acq || j.ins.Weak || o.ins.Rel || o.ins.Acq && j.ins.Rel {
			waits |= 1 << j.place
		}
	}
	return waits
}

// fenced is what an operation waits for by the fences ahead of it.
func (r route) fenced(o op) int {
	waits := 0
	for place, at := range r.path[:o.place] {
		f := r.code[at]
		if f.Op != api.OpFence || !takes(f.Succ, o.ins) {
			continue
		}
		for _, j := range r.ops {
			if j.place < place && takes(f.Pred, j.ins) {
				waits |= 1 << j.place
			}
		}
	}
	return waits
}

// takes tells whether a side of a fence is of an instruction's kind.
func takes(side int, i api.Ins) bool {
	return uir.Reads(i) && side&api.FenceR != 0 || uir.Writes(i) && side&api.FenceW != 0
}

// fetched is what a read waits for by the ISBs ahead of it.
func (r route) fetched(o op) int {
	waits := 0
	for place, at := range r.path[:o.place] {
		if r.code[at].Op == api.OpIsb {
			waits |= r.settled(place)
		}
	}
	return waits
}

// next is the index to which the path goes on from a place.
func (r route) next(place int) int {
	if place+1 == len(r.path) {
		return len(r.code)
	}
	return r.path[place+1]
}
