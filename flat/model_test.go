package flat_test

import (
	"fmt"
	"slices"

	"belated/api"
)

// plain is a model of the machine: what chapter 17 says, gone through anew for
// each answer. Of a state it keeps the paths, the row, and of each byte that was
// read from where. No package of the project has a part in it.
type plain struct {
	t     api.Test
	paths [api.MaxThreads][]int // nil as long as none is chosen
	row   []spot
	from  map[taken]spot
}

// spot is an operation: a place of a thread's path.
type spot struct{ thread, place int }

// taken is a byte that a read took.
type taken struct {
	spot
	b int
}

var initial = spot{-1, -1}

// behind is the model behind moves.
func behind(t api.Test, gone []api.Move) *plain {
	p := &plain{t: t, from: map[taken]spot{}}
	for _, move := range gone {
		if move.Kind == api.MovePath {
			p.paths[move.Thread] = pathsOf(t.Code[move.Thread])[move.N]
		} else {
			p.perform(spot{move.Thread, move.N})
		}
	}
	return p
}

// pathsOf is the paths of a code, none of them nil.
func pathsOf(c code) [][]int {
	var onward func(at int) [][]int
	onward = func(at int) [][]int {
		if at >= len(c) {
			return [][]int{{}}
		}
		tos := []int{at + 1}
		if c[at].Op == api.OpBranch && c[at].To != at+1 {
			tos = append(tos, c[at].To)
		}
		var out [][]int
		for _, to := range tos {
			for _, rest := range onward(to) {
				out = append(out, append([]int{at}, rest...))
			}
		}
		return out
	}
	return onward(0)
}

func reads(i api.Ins) bool { return i.Op == api.OpLoad || i.Op == api.OpRmw }

func writes(i api.Ins) bool { return i.Op == api.OpStore || i.Op == api.OpRmw }

func (p *plain) ins(s spot) api.Ins { return p.t.Code[s.thread][p.paths[s.thread][s.place]] }

// ahead is the places of a thread's path ahead of one that hold such an instruction.
func (p *plain) ahead(s spot, is func(i api.Ins) bool) (out []spot) {
	for place := range s.place {
		if j := (spot{s.thread, place}); is(p.ins(j)) {
			out = append(out, j)
		}
	}
	return out
}

func isOp(i api.Ins) bool { return reads(i) || writes(i) }

// ops is all memory operations of a thread.
func (p *plain) ops(thread int) []spot { return p.ahead(spot{thread, len(p.paths[thread])}, isOp) }

// turn is where an operation stands in the row; -1, if it is not performed.
func (p *plain) turn(s spot) int { return slices.Index(p.row, s) }

func (p *plain) performed(s spot) bool { return p.turn(s) >= 0 }

// value is what a register holds ahead of a place; false, if a read that it
// hangs on is not performed.
func (p *plain) value(s spot, reg int) (int, bool) {
	for place := s.place - 1; place >= 0; place-- {
		g := spot{s.thread, place}
		i := p.ins(g)
		if i.Dst != reg {
			continue
		}
		switch i.Op {
		case api.OpConst:
			return i.Imm, true
		case api.OpMove:
			return p.value(g, i.A)
		case api.OpAlu:
			a, ok := p.value(g, i.A)
			b, also := i.Imm, true
			if i.B >= 0 {
				b, also = p.value(g, i.B)
			}
			return [...]int{api.FnAdd: a + b, api.FnSub: a - b, api.FnXor: a ^ b, api.FnAnd: a & b, api.FnOr: a | b}[i.Fn], ok && also
		}
		return p.old(g), p.performed(g)
	}
	return p.t.Regs[s.thread][reg], true
}

// address is the byte of its location at which an operation begins; false, if
// that is not known.
func (p *plain) address(s spot) (int, bool) {
	i := p.ins(s)
	if i.Index < 0 {
		return first(i, 0), true
	}
	index, ok := p.value(s, i.Index)
	return first(i, index), ok
}

// datum is what the A of a write holds, or its number.
func (p *plain) datum(s spot) (int, bool) {
	i := p.ins(s)
	if i.A < 0 {
		return i.Imm, true
	}
	return p.value(s, i.A)
}

// touches tells whether an operation is known to touch a byte of a location.
func (p *plain) touches(s spot, loc, b int) bool {
	from, ok := p.address(s)
	return ok && p.ins(s).Loc == loc && b >= from && b < from+p.ins(s).Size
}

// common is the bytes that two operations are known to touch.
func (p *plain) common(a, b spot) (out []int) {
	for n := range 8 {
		if loc := p.ins(a).Loc; p.touches(a, loc, n) && p.touches(b, loc, n) {
			out = append(out, n)
		}
	}
	return out
}

// old is what a read that was performed came to.
func (p *plain) old(s spot) int {
	if !p.performed(s) {
		return 0
	}
	var v [8]byte
	from, _ := p.address(s)
	for n := range p.ins(s).Size {
		v[n] = p.byteOf(p.from[taken{s, from + n}], p.ins(s).Loc, from+n)
	}
	return valueOf(v)
}

// byteOf is a byte of a location as a write leaves it, or Init.
func (p *plain) byteOf(w spot, loc, b int) byte {
	if w == initial {
		return bytesOf(p.t.Init[loc])[b]
	}
	i := p.ins(w)
	datum, _ := p.datum(w)
	if i.Op == api.OpRmw && i.Fn == api.FnAdd {
		datum += p.old(w)
	}
	from, _ := p.address(w)
	return bytesOf(datum)[b-from]
}

// waiting is the j of 17.2's 5 for a byte.
func (p *plain) waiting(s spot, b int) (spot, bool) {
	for _, j := range slices.Backward(p.ahead(s, writes)) {
		if !p.performed(j) && p.touches(j, p.ins(s).Loc, b) {
			return j, true
		}
	}
	return initial, false
}

func (p *plain) perform(s spot) {
	if reads(p.ins(s)) {
		for b := range 8 {
			if !p.touches(s, p.ins(s).Loc, b) {
				continue
			}
			from, ok := p.waiting(s, b)
			for _, w := range p.row {
				if !ok && writes(p.ins(w)) && p.touches(w, p.ins(s).Loc, b) {
					from = w
				}
			}
			p.from[taken{s, b}] = from
		}
	}
	p.row = append(p.row, s)
}

// The rules of 17.2 of which an operation breaks one or more: a bit each, bit 0
// for what must be known of itself.
func (p *plain) broken(s spot) (rules int) {
	for n, rule := range []func(s spot) bool{p.itself, p.turnOfWrite, p.marks, p.fences, p.isbs, p.handed} {
		if !rule(s) {
			rules |= 1 << n
		}
	}
	return rules
}

func (p *plain) itself(s spot) bool {
	_, ok := p.address(s)
	_, also := p.datum(s)
	return ok && (also || !writes(p.ins(s)))
}

// settled tells whether it is known what all branches ahead of a place ask, and
// where all operations ahead of it lie.
func (p *plain) settled(s spot) bool {
	for _, b := range p.ahead(s, func(i api.Ins) bool { return i.Op == api.OpBranch }) {
		if _, ok := p.value(b, p.ins(b).A); !ok {
			return false
		}
	}
	for _, j := range p.ahead(s, isOp) {
		if _, ok := p.address(j); !ok {
			return false
		}
	}
	return true
}

func (p *plain) turnOfWrite(s spot) bool {
	if !writes(p.ins(s)) {
		return true
	}
	for _, j := range p.ahead(s, isOp) {
		if len(p.common(j, s)) > 0 && !p.performed(j) {
			return false
		}
	}
	return p.settled(s)
}

func (p *plain) marks(s spot) bool {
	i := p.ins(s)
	for _, j := range p.ahead(s, isOp) {
		o := p.ins(j)
		if (o.Acq || o.Weak || i.Rel || i.Acq && o.Rel) && !p.performed(j) {
			return false
		}
	}
	return true
}

func (p *plain) fences(s spot) bool {
	fits := func(side int, i api.Ins) bool { return reads(i) && side%2 == 1 || writes(i) && side >= 2 }
	for _, f := range p.ahead(s, func(i api.Ins) bool { return i.Op == api.OpFence }) {
		for _, j := range p.ahead(f, isOp) {
			if fits(p.ins(f).Pred, p.ins(j)) && fits(p.ins(f).Succ, p.ins(s)) && !p.performed(j) {
				return false
			}
		}
	}
	return true
}

func (p *plain) isbs(s spot) bool {
	if !reads(p.ins(s)) {
		return true
	}
	for _, b := range p.ahead(s, func(i api.Ins) bool { return i.Op == api.OpIsb }) {
		if !p.settled(b) {
			return false
		}
	}
	return true
}

func (p *plain) handed(s spot) bool {
	for b := range 8 {
		if !reads(p.ins(s)) || !p.touches(s, p.ins(s).Loc, b) {
			continue
		}
		if j, ok := p.waiting(s, b); ok {
			if _, known := p.datum(j); p.ins(j).Op == api.OpRmw || !known {
				return false
			}
		}
	}
	return true
}

// dead is the ways of 17.3 in which a state is dead: a bit each.
func (p *plain) dead() (ways int) {
	for thread := range p.t.Code {
		if p.paths[thread] == nil {
			continue
		}
		for n, way := range []func(thread int) bool{p.strays, p.missed, p.crossed} {
			if way(thread) {
				ways |= 1 << n
			}
		}
	}
	return ways
}

func (p *plain) strays(thread int) bool {
	all := append(slices.Clone(p.paths[thread]), len(p.t.Code[thread]))
	for place, at := range p.paths[thread] {
		b := spot{thread, place}
		i := p.ins(b)
		if i.Op != api.OpBranch {
			continue
		}
		to := at + 1
		v, ok := p.value(b, i.A)
		if (v == 0) == i.Zero {
			to = i.To
		}
		if ok && all[place+1] != to {
			return true
		}
	}
	return false
}

// missed: a read that was performed, a write ahead of it.
func (p *plain) missed(thread int) bool {
	for _, r := range p.ops(thread) {
		for _, w := range p.ahead(r, writes) {
			if !reads(p.ins(r)) || !p.performed(r) || p.performed(w) && p.turn(w) < p.turn(r) {
				continue
			}
			for _, b := range p.common(r, w) {
				if s := p.from[taken{r, b}]; s.thread != thread || s.place < w.place {
					return true
				}
			}
		}
	}
	return false
}

// crossed: two reads that were performed, the later one first.
func (p *plain) crossed(thread int) bool {
	for _, late := range p.ops(thread) {
		for _, early := range p.ahead(late, reads) {
			if !reads(p.ins(late)) || !p.performed(early) || !p.performed(late) || p.turn(early) < p.turn(late) {
				continue
			}
			for _, b := range p.common(early, late) {
				if p.from[taken{early, b}] != p.from[taken{late, b}] && p.untouched(early, late, b) {
					return true
				}
			}
		}
	}
	return false
}

// untouched tells whether all writes between two places have known addresses and
// do not touch a byte.
func (p *plain) untouched(early, late spot, b int) bool {
	for _, w := range p.ahead(late, writes) {
		if w.place <= early.place {
			continue
		}
		if _, ok := p.address(w); !ok || p.touches(w, p.ins(late).Loc, b) {
			return false
		}
	}
	return true
}

func (p *plain) moves() (out []api.Move) {
	if p.dead() != 0 {
		return nil
	}
	for thread, c := range p.t.Code {
		if p.paths[thread] == nil {
			for n := range pathsOf(c) {
				out = append(out, path(thread, n))
			}
			continue
		}
		for _, s := range p.ops(thread) {
			if !p.performed(s) && p.broken(s) == 0 {
				out = append(out, at(thread, p.paths[thread][s.place], s.place))
			}
		}
	}
	return out
}

// done tells whether all is chosen and performed, and the state not dead.
func (p *plain) done() bool {
	for thread := range p.t.Code {
		if p.paths[thread] == nil {
			return false
		}
		for _, s := range p.ops(thread) {
			if !p.performed(s) {
				return false
			}
		}
	}
	return p.dead() == 0
}

// state is what the machine is to tell.
func (p *plain) state() state {
	s := state{done: p.done(), dead: p.dead() != 0}
	if !s.done {
		return s
	}
	for thread := range p.t.Code {
		for reg := range s.Regs[thread] {
			s.Regs[thread][reg], _ = p.value(spot{thread, len(p.paths[thread])}, reg)
		}
	}
	for loc := range s.Mem {
		held := bytesOf(p.t.Init[loc])
		for b := range held {
			for _, w := range p.row {
				if writes(p.ins(w)) && p.touches(w, loc, b) {
					held[b] = p.byteOf(w, loc, b)
				}
			}
		}
		s.Mem[loc] = valueOf(held)
	}
	return s
}

// whole is all that the model keeps, as a text.
func (p *plain) whole() string {
	return fmt.Sprintf("%#v %v %v", p.paths, p.row, p.from)
}
