package view_test

import (
	"slices"

	"belated/api"
)

// plain is a thread's walk along a Run, worked out anew from chapter 18's words:
// no view is kept, each is what the places that were passed make of it. No package
// of the project has a part in it.
type plain struct {
	code     code
	path     []int
	times    []int // by place: of a store, of a load's source
	messages []int // by time, less one: the location
	known    map[int]int
}

// pathsOf is the paths of a code.
func pathsOf(c code) [][]int {
	var onward func(at int) [][]int
	onward = func(at int) [][]int {
		if at >= len(c) {
			return [][]int{{}}
		}
		tos := []int{at + 1}
		if c[at].Op == api.OpBranch && c[at].To != at+1 {
			tos = append(tos, c[at].To)
		}
		var out [][]int
		for _, to := range tos {
			for _, rest := range onward(to) {
				out = append(out, append([]int{at}, rest...))
			}
		}
		return out
	}
	return onward(0)
}

// walkOf is the walk of a thread along a Run.
func walkOf(t api.Test, r api.Run, thread int) *plain {
	p := &plain{code: t.Code[thread], path: pathsOf(t.Code[thread])[r.Paths[thread]], known: map[int]int{}}
	p.times = make([]int, len(p.path))
	for n, e := range r.Events {
		if e.Thread == thread && (e.Reads || e.Writes) {
			p.times[e.Pos] = timeOf(r, n)
		}
	}
	for _, w := range r.Order {
		p.messages = append(p.messages, r.Events[w].Span.Loc)
	}
	return p
}

func (p *plain) ins(place int) api.Ins { return p.code[p.path[place]] }

// most is the join of what the places ahead of one tell, of such an operation.
func (p *plain) most(place, op int, tells func(q int, i api.Ins) int) (view int) {
	for q := range place {
		if i := p.ins(q); i.Op == op {
			view = max(view, tells(q, i))
		}
	}
	return view
}

// reg is the view of a register ahead of a place.
func (p *plain) reg(place, reg int) int {
	for g := place - 1; g >= 0 && reg >= 0; g-- {
		i := p.ins(g)
		if i.Dst != reg {
			continue
		}
		switch i.Op {
		case api.OpConst:
			return 0
		case api.OpMove:
			return p.reg(g, i.A)
		case api.OpAlu:
			return max(p.reg(g, i.A), p.reg(g, i.B))
		}
		return p.after(g)
	}
	return 0
}

func (p *plain) address(q int) int { return p.reg(q, p.ins(q).Index) }

func (p *plain) datum(q int) int { return p.reg(q, p.ins(q).A) }

func (p *plain) oldRead(place int) int {
	return p.most(place, api.OpLoad, func(q int, _ api.Ins) int { return p.after(q) })
}

func (p *plain) oldWrite(place int) int {
	return p.most(place, api.OpStore, func(q int, _ api.Ins) int { return p.times[q] })
}

// ordered is what fences with such a Succ, and loads with Acq or Weak, make of a
// view ahead of a place.
func (p *plain) ordered(place, succ int) int {
	fences := p.most(place, api.OpFence, func(q int, i api.Ins) int {
		reads, writes := 0, 0
		if i.Succ&succ != 0 && i.Pred&api.FenceR != 0 {
			reads = p.oldRead(q)
		}
		if i.Succ&succ != 0 && i.Pred&api.FenceW != 0 {
			writes = p.oldWrite(q)
		}
		return max(reads, writes)
	})
	loads := p.most(place, api.OpLoad, func(q int, i api.Ins) int {
		if !i.Acq && !i.Weak {
			return 0
		}
		return p.after(q)
	})
	return max(fences, loads)
}

func (p *plain) newRead(place int) int {
	return max(p.ordered(place, api.FenceR), p.most(place, api.OpIsb, func(q int, _ api.Ins) int { return p.control(q) }))
}

func (p *plain) newWrite(place int) int { return p.ordered(place, api.FenceW) }

func (p *plain) control(place int) int {
	address := func(q int, _ api.Ins) int { return p.address(q) }
	return max(p.most(place, api.OpLoad, address), p.most(place, api.OpStore, address),
		p.most(place, api.OpBranch, func(q int, i api.Ins) int { return p.reg(q, i.A) }))
}

func (p *plain) release(place int) int {
	return p.most(place, api.OpStore, func(q int, i api.Ins) int {
		if !i.Rel {
			return 0
		}
		return p.times[q]
	})
}

func (p *plain) coherence(place, loc int) int {
	return max(p.most(place, api.OpLoad, func(q int, i api.Ins) int {
		if i.Loc != loc {
			return 0
		}
		return p.after(q)
	}), p.most(place, api.OpStore, func(q int, i api.Ins) int {
		if i.Loc != loc {
			return 0
		}
		return p.times[q]
	}))
}

// The parts of a join that may decide.
const (
	byAddress = iota
	byDatum
	byNewRead
	byNewWrite
	byControl
	byOldRead
	byOldWrite
	byRelease
	byCoherence
	howMany
)

// before is the parts of the join that a memory operation is held against.
func (p *plain) before(place int) (parts [howMany]int) {
	i := p.ins(place)
	parts[byAddress] = p.address(place)
	if i.Op == api.OpLoad {
		parts[byNewRead] = p.newRead(place)
		if i.Acq {
			parts[byRelease] = p.release(place)
		}
		return parts
	}
	parts[byDatum], parts[byNewWrite], parts[byControl] = p.datum(place), p.newWrite(place), p.control(place)
	if i.Rel {
		parts[byOldRead], parts[byOldWrite] = p.oldRead(place), p.oldWrite(place)
	}
	return parts
}

// after is the view that a load comes to.
func (p *plain) after(place int) int {
	if v, ok := p.known[place]; ok {
		return v
	}
	parts := p.before(place)
	v, t := slices.Max(parts[:]), p.times[place]
	for q := place - 1; ; q-- {
		if q < 0 {
			v = max(v, t)
			break
		}
		if i := p.ins(q); i.Op != api.OpStore || i.Loc != p.ins(place).Loc {
			continue
		}
		if p.times[q] == t {
			v = max(v, p.address(q), p.datum(q))
		} else {
			v = max(v, t)
		}
		break
	}
	p.known[place] = v
	return v
}

// refuses tells by which parts of its join an operation is refused, each by itself.
func (p *plain) refuses(place int) (by [howMany]bool, is bool) {
	i, t := p.ins(place), p.times[place]
	if i.Op != api.OpLoad && i.Op != api.OpStore {
		return by, false
	}
	parts := p.before(place)
	parts[byCoherence] = p.coherence(place, i.Loc)
	for n, view := range parts {
		if i.Op == api.OpStore {
			by[n] = view >= t
		} else {
			by[n] = slices.Contains(p.messages[min(t, view):view], i.Loc)
		}
		is = is || by[n]
	}
	return by, is
}

// refused is the first place at which a walk is refused; -1, if there is none.
func (p *plain) refused() int {
	for place := range p.path {
		if _, is := p.refuses(place); is {
			return place
		}
	}
	return -1
}

// accepts is what chapter 18 says of a Run of a Plain test.
func accepts(t api.Test, r api.Run) bool {
	for thread := range t.Code {
		if walkOf(t, r, thread).refused() >= 0 {
			return false
		}
	}
	return true
}
