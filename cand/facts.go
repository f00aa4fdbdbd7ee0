package cand

import (
	"belated/api"
	"belated/bits"
	"belated/flow"
	"belated/rel"
)

// facts are what the sets and relations of a Run are made of. What a Run that
// is none of the test's tells of events, bytes and places that there are not
// is passed over.
type facts struct {
	events []api.Event
	addr   [api.MaxEvents]int // by event: the reads that it hangs on, a bit a place
	data   [api.MaxEvents]int
	ctrl   [api.MaxEvents]int
	rank   [api.MaxEvents]int         // by event: where it stands in Order
	took   [api.MaxEvents]int         // by event: the bytes that have a source
	from   [api.MaxEvents][window]int // by event and byte: that source
}

func gather(t api.Test, r api.Run) *facts {
	f := &facts{events: r.Events[:min(len(r.Events), api.MaxEvents)]}
	f.hang(t, r.Paths)
	for n := range f.rank {
		f.rank[n] = nowhere
	}
	for at, n := range r.Order {
		if f.has(n) {
			f.rank[n] = at
		}
	}
	for _, s := range r.Sources {
		if f.has(s.Event) && s.Byte >= 0 && s.Byte < window && (s.From == nowhere || f.has(s.From)) {
			f.took[s.Event] |= 1 << s.Byte
			f.from[s.Event][s.Byte] = s.From
		}
	}
	return f
}

// hang works out what events hang on, by the codes and the paths.
func (f *facts) hang(t api.Test, picks [api.MaxThreads]int) {
	for thread, code := range t.Code[:min(len(t.Code), api.MaxThreads)] {
		paths := flow.Paths(code...)
		if picks[thread] < 0 || picks[thread] >= len(paths) {
			continue
		}
		path := paths[picks[thread]]
		for n, e := range f.events {
			if e.Thread == thread {
				f.addr[n] = flow.Addr(code, path, e.Pos)
				f.data[n] = flow.Data(code, path, e.Pos)
				f.ctrl[n] = flow.Ctrl(code, path, e.Pos)
			}
		}
	}
}

func (f *facts) has(n int) bool {
	return n >= 0 && n < len(f.events)
}

// set is the events of which something holds, by a name.
func (f *facts) set(name string, holds func(e api.Event) bool) api.Bound {
	var in []int
	for n, e := range f.events {
		if holds(e) {
			in = append(in, n)
		}
	}
	return api.Bound{Name: name, Set: true, S: rel.Events(in...)}
}

// relation is the pairs of events of which something holds, by a name.
func (f *facts) relation(name string, holds func(a, b int) bool) api.Bound {
	var in [][2]int
	for a := range f.events {
		for b := range f.events {
			if holds(a, b) {
				in = append(in, [2]int{a, b})
			}
		}
	}
	return api.Bound{Name: name, R: rel.Pair(in...)}
}

func (f *facts) ahead(a, b int) bool {
	return !f.apart(a, b) && f.events[a].Pos < f.events[b].Pos
}

func (f *facts) beside(a, b int) bool {
	return !f.apart(a, b) && a != b
}

func (f *facts) apart(a, b int) bool {
	return f.events[a].Thread != f.events[b].Thread
}

func (f *facts) overlap(a, b int) bool {
	return a != b && f.common(a, b) != 0
}

// common is the bytes that two events touch: none, if one of them is no memory
// operation, since it touches nothing.
func (f *facts) common(a, b int) int {
	x, y := f.events[a].Span, f.events[b].Span
	if x.Loc != y.Loc {
		return 0
	}
	return bits.Meet(x.Mask, y.Mask)
}

// hangs tells whether a is one of the reads at these places of b's thread. The
// place is turned to a uint, since a Run that is none could have one below 0.
func (f *facts) hangs(places, a, b int) bool {
	return !f.apart(a, b) && places>>uint(f.events[a].Pos)&1 == 1
}

func (f *facts) readBy(w, r int) bool {
	return f.anyByte(f.took[r], func(b int) bool { return f.from[r][b] == w })
}

func (f *facts) overwritten(a, b int) bool {
	return f.rank[a] != nowhere && f.rank[a] < f.rank[b] && f.common(a, b) != 0
}

// readAhead tells whether r took a byte from ahead of what w writes there.
// (The source of a byte that a write took is ahead of that write itself.)
func (f *facts) readAhead(r, w int) bool {
	return r != w && f.anyByte(f.took[r]&f.common(r, w), func(b int) bool {
		from := f.from[r][b]
		return f.rank[w] != nowhere && (from == nowhere || f.rank[from] < f.rank[w])
	})
}

// readAnew tells whether read b, behind a on its path, took a byte from
// elsewhere than a did, without a write of their own between them.
func (f *facts) readAnew(a, b int) bool {
	if !f.ahead(a, b) {
		return false
	}
	bytes := f.took[a] & f.took[b] & f.common(a, b)
	for w, e := range f.events {
		if e.Writes && f.ahead(a, w) && f.ahead(w, b) {
			bytes &^= f.common(a, w)
		}
	}
	return f.anyByte(bytes, func(at int) bool { return f.from[a][at] != f.from[b][at] })
}

// anyByte tells whether something holds of a byte that the mask has.
func (f *facts) anyByte(mask int, holds func(b int) bool) bool {
	for b := range window {
		if mask>>b&1 == 1 && holds(b) {
			return true
		}
	}
	return false
}

func isOp(e api.Event) bool {
	return e.Reads || e.Writes
}

func isFence(e api.Event) bool {
	return e.Op == api.OpFence
}
