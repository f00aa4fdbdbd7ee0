package flat

import (
	"slices"

	"belated/api"
	"belated/bits"
	"belated/uir"
)

// may tells whether an operation may be performed; ahead is those ahead of it
// on its path.
func (s *strand) may(o op, ahead []op) bool {
	if s.performed(o) || !s.have(o.waits) {
		return false
	}
	return (!uir.Writes(o.ins) || s.inTurn(o, ahead)) && (!uir.Reads(o.ins) || s.readable(o, ahead))
}

func (s *strand) performed(o op) bool {
	return s.have(1 << o.place)
}

// inTurn tells whether all that is ahead of a write and meets it is performed.
func (s *strand) inTurn(o op, ahead []op) bool {
	for _, j := range ahead {
		if !s.performed(j) && s.common(o, j) != 0 {
			return false
		}
	}
	return true
}

// common is the bytes that two operations are known to touch both.
func (s *strand) common(a, b op) int {
	if a.ins.Loc != b.ins.Loc {
		return 0
	}
	return bits.Meet(s.masks[a.place], s.masks[b.place])
}

// readable tells whether a read can take each byte that it would be handed on
// by a write ahead of it: what an OpRmw writes is not known ahead of its turn.
func (s *strand) readable(o op, ahead []op) bool {
	for b := range window {
		w, ok := s.waiting(o, ahead, b)
		if ok && (w.ins.Op == api.OpRmw || !s.have(w.data)) {
			return false
		}
	}
	return true
}

// waiting is the last write ahead of a read that is known to touch a byte of it
// and is not performed.
func (s *strand) waiting(o op, ahead []op, b int) (op, bool) {
	for _, w := range slices.Backward(ahead) {
		if uir.Writes(w.ins) && !s.performed(w) && s.common(o, w)>>b&1 == 1 {
			return w, true
		}
	}
	return op{}, false
}

// perform does the operation at a place, which may be performed.
func (m *Machine) perform(thread, place int) {
	ops, s := m.route(thread).ops, &m.threads[thread]
	n := slices.IndexFunc(ops, func(o op) bool { return o.place == place })
	if uir.Reads(ops[n].ins) {
		m.read(thread, ops[n], ops[:n])
	}
	if uir.Writes(ops[n].ins) {
		m.write(thread, ops[n])
	}
	s.done |= 1 << place
	s.turns[place] = m.count
	m.row[m.count] = spot{int8(thread), int8(place)}
	m.count++
}

// read takes each byte from the write ahead that waits, if there is one, and
// else from memory.
func (m *Machine) read(thread int, o op, ahead []op) {
	s := &m.threads[thread]
	v := m.mem[o.ins.Loc]
	s.from[o.place] = m.last[o.ins.Loc]
	for b := range window {
		if w, ok := s.waiting(o, ahead, b); ok {
			v = bits.Blend(v, s.news[w.place], 1<<b)
			s.from[o.place][b] = spot{int8(thread), int8(w.place)}
		}
	}
	s.olds[o.place] = bits.Get(v, s.offs[o.place], o.ins.Size)
}

// write lays what an operation writes over memory.
func (m *Machine) write(thread int, o op) {
	s, loc := &m.threads[thread], o.ins.Loc
	off, size := s.offs[o.place], o.ins.Size
	if o.ins.Op == api.OpRmw {
		v := bits.Rmw(o.ins.Fn, s.olds[o.place], m.datum(thread, o), size)
		s.news[o.place] = bits.Put(0, off, size, v)
	}
	m.mem[loc] = bits.Blend(m.mem[loc], s.news[o.place], s.masks[o.place])
	for b := range window {
		if s.masks[o.place]>>b&1 == 1 {
			m.last[loc][b] = spot{int8(thread), int8(o.place)}
		}
	}
}
