package flat

import (
	"belated/api"
	"belated/uir"
)

// strays tells whether a branch of a thread's path is known to go another way.
func (m *Machine) strays(thread int) bool {
	r := m.route(thread)
	for place, at := range r.path {
		i := r.code[at]
		if i.Op != api.OpBranch {
			continue
		}
		to := at + 1
		v, known := m.value(thread, place, i.A)
		if (v == 0) == i.Zero {
			to = i.To
		}
		if known && r.next(place) != to {
			return true
		}
	}
	return false
}

// fails tells whether a read came to what may not be.
func (s *strand) fails(ops []op) bool {
	for n, o := range ops {
		if !uir.Reads(o.ins) || !s.performed(o) {
			continue
		}
		for k, j := range ops[:n] {
			if s.missed(j, o) || s.crossed(j, o, ops[k+1:n]) {
				return true
			}
		}
	}
	return false
}

// missed tells whether a read passed over a write ahead of it on its path: it
// was performed first, and took a byte from elsewhere than there or behind.
func (s *strand) missed(w, o op) bool {
	return uir.Writes(w.ins) && !s.inOrder(w, o) && s.common(w, o)&s.strange(o, w) != 0
}

// strange is the bytes that a read took from no write of its own path at w's
// place or behind.
func (s *strand) strange(o, w op) int {
	bytes := 0
	for b, from := range s.from[o.place] {
		if int(from.thread) != s.number || int(from.place) < w.place {
			bytes |= 1 << b
		}
	}
	return bytes
}

// crossed tells whether a read was performed ahead of one that is ahead of it on
// its path, and took a byte from elsewhere, that no write between gave it.
func (s *strand) crossed(j, o op, between []op) bool {
	if !uir.Reads(j.ins) || !s.performed(j) || s.inOrder(j, o) {
		return false
	}
	return s.common(j, o)&s.unlike(j, o)&^s.covered(o, between) != 0
}

// unlike is the bytes of which two reads have other sources.
func (s *strand) unlike(j, o op) int {
	bytes := 0
	for b, from := range s.from[o.place] {
		if from != s.from[j.place][b] {
			bytes |= 1 << b
		}
	}
	return bytes
}

// covered is the bytes of a read that writes between touch: all, as long as it
// is not known where one of them lies.
func (s *strand) covered(o op, between []op) int {
	bytes := 0
	for _, w := range between {
		if uir.Writes(w.ins) && s.masks[w.place] == 0 {
			return s.masks[o.place]
		}
		if uir.Writes(w.ins) {
			bytes |= s.common(w, o)
		}
	}
	return bytes
}

// inOrder tells whether an operation was performed ahead of another one, that
// was performed.
func (s *strand) inOrder(j, o op) bool {
	return s.performed(j) && s.turns[j.place] < s.turns[o.place]
}
