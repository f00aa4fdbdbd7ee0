package cat

import (
	"slices"

	"belated/api"
	"belated/rel"
)

// scene is what the names of a model stand for.
type scene struct {
	u      api.Set
	values []api.Bound // by the names' numbers
}

// newScene is one in which no name is given yet.
func newScene(m *Model, u api.Set, bs []api.Bound) *scene {
	s := &scene{u: u}
	for _, d := range m.names {
		s.values = append(s.values, api.Bound{Name: d.Name, Set: d.Set})
	}
	for _, b := range slices.Backward(bs) { // so the first one of a name stays
		if n, ok := m.numbers[b.Name]; ok && n < m.first && m.names[n].Set == b.Set {
			s.values[n] = only(b)
		}
	}
	return s
}

// only is a binding without what is not of its kind.
func only(b api.Bound) api.Bound {
	if b.Set {
		return api.Bound{Name: b.Name, Set: true, S: b.S}
	}
	return api.Bound{Name: b.Name, R: b.R}
}

// give lets the names of a `let` stand for what their expressions do. Those of
// a `let rec` stand for nothing at first, and nothing that they come to is
// ever lost again, as no difference takes them away: so what they end with is
// the least.
func (s *scene) give(st statement) {
	for more := true; more; {
		more = s.apply(st.parts) && st.kind == kindRec
	}
}

// apply works out all expressions once; whether a name stands for something
// else now.
func (s *scene) apply(parts []part) bool {
	anew := false
	for _, p := range parts {
		b := api.Bound{Name: p.name, Set: p.value.set}
		if b.Set {
			b.S = s.set(p.value)
		} else {
			b.R = s.relation(p.value)
		}
		anew = anew || b != s.values[p.number]
		s.values[p.number] = b
	}
	return anew
}

// holds tells whether a check does.
func (s *scene) holds(check statement) bool {
	of := check.parts[0].value
	switch {
	case check.kind == kindAcyclic:
		return rel.Acyclic(s.relation(of))
	case check.kind == kindIrreflexive:
		return rel.Irreflexive(s.relation(of))
	case of.set:
		return s.set(of) == 0
	}
	return rel.Empty(s.relation(of))
}

// set is what an expression that is a set stands for.
func (s *scene) set(n *node) api.Set {
	switch n.kind {
	case nodeName:
		return s.values[n.number].S
	case nodeRound:
		return s.set(n.left)
	case nodeUnion:
		return s.set(n.left) | s.set(n.right)
	case nodeMeet:
		return s.set(n.left) & s.set(n.right)
	case nodeMinus:
		return s.set(n.left) &^ s.set(n.right)
	}
	return 0
}

// relation is what an expression that is a relation stands for.
func (s *scene) relation(n *node) api.Rel {
	switch n.kind {
	case nodeName:
		return s.values[n.number].R
	case nodeRound:
		return s.relation(n.left)
	case nodeSquare:
		return rel.Id(s.set(n.left))
	case nodeCross:
		return rel.Cross(s.set(n.left), s.set(n.right))
	case nodeUnion:
		return rel.Union(s.relation(n.left), s.relation(n.right))
	case nodeMeet:
		return rel.Meet(s.relation(n.left), s.relation(n.right))
	case nodeMinus:
		return rel.Minus(s.relation(n.left), s.relation(n.right))
	case nodeSeq:
		return rel.Seq(s.relation(n.left), s.relation(n.right))
	case nodePlus:
		return rel.Plus(s.relation(n.left))
	case nodeStar:
		return rel.Star(s.u, s.relation(n.left))
	case nodeMaybe:
		return rel.Maybe(s.u, s.relation(n.left))
	case nodeInverse:
		return rel.Inverse(s.relation(n.left))
	}
	return api.Rel{} // nodeZero
}
