package flat

import (
	"belated/api"
	"belated/bits"
	"belated/flow"
)

const (
	window = 8  // bytes of a location
	none   = -1 // as a path: not chosen yet; as a thread: Init, which is of none
)

// spot is an operation, by its thread and its place there. (As small as may be:
// a state holds many of them.)
type spot struct{ thread, place int8 }

// state is what becomes of a test. It is arrays: a copy of it goes by itself.
type state struct {
	threads [api.MaxThreads]strand
	row     [api.MaxOps]spot          // what was performed, in order
	count   int                       // how many these are
	mem     [api.MaxLocs]int          // what the writes in the row leave
	last    [api.MaxLocs][window]spot // of each byte of it, the write that it is of
	dead    bool
}

// strand is what becomes of a thread; its arrays go by places of its path.
type strand struct {
	number int                       // its own
	path   int                       // that of the one that it has chosen
	done   int                       // what was performed: a bit a place
	turns  [api.MaxCode]int          // where in the row that is
	olds   [api.MaxCode]int          // what a read came to
	from   [api.MaxCode][window]spot // by byte of the location, from where
	offs   [api.MaxCode]int          // where an operation lies
	masks  [api.MaxCode]int          // the bytes that it touches: none as long as its address is not known
	news   [api.MaxCode]int          // what it writes, as it lies in its location
}

// newState is that of nothing chosen, nothing performed.
func newState(init [api.MaxLocs]int) state {
	s := state{mem: init}
	for thread := range s.threads {
		s.threads[thread].number, s.threads[thread].path = thread, none
	}
	for loc := range s.last {
		for b := range s.last[loc] {
			s.last[loc][b].thread = none
		}
	}
	return s
}

// route is the one that a thread has chosen.
func (m *Machine) route(thread int) route {
	return m.routes[thread][m.threads[thread].path]
}

// value is what a register holds ahead of a place; false, if that is not known.
func (m *Machine) value(thread, place, reg int) (int, bool) {
	r, s := m.route(thread), &m.threads[thread]
	return flow.Value(r.code, r.path, m.regs[thread], place, reg, s.olds[:], s.done)
}

// learn works out the footprints and data of a thread that have come to be
// known: not only of what may be performed next, since a read may take what a
// store ahead of it is to write.
func (m *Machine) learn(thread int) {
	s := &m.threads[thread]
	for _, o := range m.route(thread).ops {
		i := o.ins
		if s.performed(o) || !s.have(o.addr) {
			continue
		}
		index, _ := m.value(thread, o.place, i.Index)
		off := bits.Place(i.Off, index, i.Size)
		s.offs[o.place], s.masks[o.place] = off, bits.Mask(off, i.Size)
		if i.Op == api.OpStore && s.have(o.data) {
			s.news[o.place] = bits.Put(0, off, i.Size, m.datum(thread, o))
		}
	}
}

// have tells whether all operations at these places are performed; what hangs
// on these reads is known then.
func (s *strand) have(places int) bool {
	return places&^s.done == 0
}

// datum is what the A of a write holds, or its number.
func (m *Machine) datum(thread int, o op) int {
	if o.ins.A < 0 {
		return o.ins.Imm
	}
	v, _ := m.value(thread, o.place, o.ins.A)
	return v
}
