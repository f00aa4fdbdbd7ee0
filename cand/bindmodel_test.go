package cand_test

import (
	"slices"

	"belated/api"
)

// modelBind is what 11.3 says of a Run of a test, name by name; what events do
// it asks the instructions, not the events.
func modelBind(t api.Test, r api.Run) []api.Bound {
	m := &telling{t: t, r: r}
	var out []api.Bound
	for _, name := range setNames {
		b := api.Bound{Name: name, Set: true}
		for n := range r.Events {
			if m.in(name, n) {
				b.S |= 1 << n
			}
		}
		out = append(out, b)
	}
	for _, name := range relationNames {
		b := api.Bound{Name: name}
		for x := range r.Events {
			for y := range r.Events {
				if m.related(name, x, y) {
					b.R[x] |= 1 << y
				}
			}
		}
		out = append(out, b)
	}
	return out
}

type telling struct {
	t api.Test
	r api.Run
}

func (m *telling) ins(n int) api.Ins {
	e := m.r.Events[n]
	return m.t.Code[e.Thread][e.At]
}

func (m *telling) in(name string, n int) bool {
	i := m.ins(n)
	isFence := i.Op == api.OpFence
	return map[string]bool{
		"M": reads(i) || writes(i), "R": reads(i), "W": writes(i), "X": i.Op == api.OpRmw, "F": isFence, "I": i.Op == api.OpIsb,
		"A": i.Acq, "Q": i.Weak, "L": i.Rel,
		"PR": isFence && i.Pred%2 == 1, "PW": isFence && i.Pred >= 2, "SR": isFence && i.Succ%2 == 1, "SW": isFence && i.Succ >= 2,
	}[name]
}

// touches tells whether an event touches a byte of a location.
func (m *telling) touches(n, loc, b int) bool {
	s := m.r.Events[n].Span
	return s.Loc == loc && s.Mask&(1<<b) != 0
}

// commonBytes is the bytes that two events touch, each with its location.
func (m *telling) commonBytes(x, y int) [][2]int {
	var out [][2]int
	for loc := range api.MaxLocs {
		for b := range 8 {
			if m.touches(x, loc, b) && m.touches(y, loc, b) {
				out = append(out, [2]int{loc, b})
			}
		}
	}
	return out
}

// source is where a read takes a byte from.
func (m *telling) source(n, b int) int {
	k := slices.IndexFunc(m.r.Sources, func(s api.Source) bool { return s.Event == n && s.Byte == b })
	return m.r.Sources[k].From
}

func (m *telling) place(n int) int { return slices.Index(m.r.Order, n) }

// hangs tells whether y's register hangs on what x reads.
func (m *telling) hangs(x, y, place, reg int) bool {
	a, b := m.r.Events[x], m.r.Events[y]
	s := &story{t: m.t}
	for thread, c := range m.t.Code {
		s.paths = append(s.paths, modelPaths(c)[m.r.Paths[thread]])
	}
	s.gatherDeeds()
	return a.Thread == b.Thread && slices.ContainsFunc(s.hangs(b.Thread, place, reg), func(k int) bool { return s.deeds[k].event == x })
}

func (m *telling) related(name string, x, y int) bool {
	a, b := m.r.Events[x], m.r.Events[y]
	i := m.ins(y)
	switch name {
	case "po":
		return a.Thread == b.Thread && a.Pos < b.Pos
	case "int":
		return a.Thread == b.Thread && x != y
	case "ext":
		return a.Thread != b.Thread
	case "ov":
		return x != y && len(m.commonBytes(x, y)) > 0
	case "addr":
		return (reads(i) || writes(i)) && m.hangs(x, y, b.Pos, i.Index)
	case "data":
		return writes(i) && m.hangs(x, y, b.Pos, i.A)
	case "ctrl":
		path := modelPaths(m.t.Code[b.Thread])[m.r.Paths[b.Thread]]
		for place, index := range path[:b.Pos] {
			if branch := m.t.Code[b.Thread][index]; branch.Op == api.OpBranch && m.hangs(x, y, place, branch.A) {
				return true
			}
		}
		return false
	case "rf":
		return slices.ContainsFunc(m.r.Sources, func(s api.Source) bool { return s.Event == y && s.From == x })
	case "co":
		return a.Writes && b.Writes && m.place(x) < m.place(y) && len(m.commonBytes(x, y)) > 0
	case "fr":
		return x != y && a.Reads && b.Writes && slices.ContainsFunc(m.commonBytes(x, y), func(at [2]int) bool {
			from := m.source(x, at[1])
			return from < 0 || m.place(from) < m.place(y)
		})
	}
	return a.Reads && b.Reads && m.related("po", x, y) && slices.ContainsFunc(m.commonBytes(x, y), func(at [2]int) bool {
		for w := range m.r.Events {
			if m.in("W", w) && m.related("po", x, w) && m.related("po", w, y) && m.touches(w, at[0], at[1]) {
				return false
			}
		}
		return m.source(x, at[1]) != m.source(y, at[1])
	})
}
