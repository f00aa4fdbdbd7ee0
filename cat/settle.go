package cat

import (
	"slices"

	"belated/api"
)

// settler finds out for a model which names its expressions speak of, and
// whether these are sets. It goes through all of it, in the order of the
// document: of the faults that it tells the first one counts.
type settler struct {
	*Model
	own    int // the names that this statement gives have numbers from this on
	refuse func(e api.Errno, at int)
}

func (m *Model) settle(refuse func(e api.Errno, at int)) {
	s := &settler{Model: m, refuse: refuse}
	for _, st := range m.statements {
		s.statement(st)
	}
}

func (s *settler) statement(st statement) {
	s.own = len(s.names)
	if !st.isCheck() {
		s.fresh(st.parts)
	}
	if st.kind == kindRec {
		s.give(st.parts)
	}
	for _, p := range st.parts {
		if st.wantsRelation() {
			s.want(p.value, false, false)
		} else {
			s.walk(p.value, false)
		}
	}
	if st.kind == kindLet {
		s.give(st.parts)
	}
}

// fresh sees to it that names may be given.
func (s *settler) fresh(parts []part) {
	given := len(s.names) - s.first
	for n, p := range parts {
		ahead := slices.ContainsFunc(parts[:n], func(q part) bool { return q.name == p.name })
		if ahead || s.knows(p.name) {
			s.refuse(api.ErrTwice, p.at)
		}
		if given+n >= api.MaxNames {
			s.refuse(api.ErrLong, p.at)
		}
	}
}

// give makes names known, as what their expressions are: of a `let rec`, whose
// expressions are still to be walked, that is a relation.
func (s *settler) give(parts []part) {
	for n, p := range parts {
		parts[n].number = s.add(api.Decl{Name: p.name, Set: p.value.set})
	}
}

// want settles a part that must be a set, or a relation: that it is not is a
// fault of its own, behind those of its parts, ahead of those on its right.
func (s *settler) want(n *node, set, taken bool) {
	s.walk(n, taken)
	if n.set != set {
		s.refuse(api.ErrType, n.at)
	}
}

// walk settles a node, its parts ahead of it. Whether it stands within the
// right part of a difference is handed down.
func (s *settler) walk(n *node, taken bool) {
	switch n.kind {
	case nodeName:
		s.name(n, taken)
	case nodeRound:
		s.walk(n.left, taken)
		n.set = n.left.set
	case nodeUnion, nodeMeet, nodeMinus:
		s.walk(n.left, taken)
		s.want(n.right, n.left.set, taken || n.kind == nodeMinus)
		n.set = n.left.set
	case nodeSquare:
		s.want(n.left, true, taken)
	case nodeCross:
		s.want(n.left, true, taken)
		s.want(n.right, true, taken)
	case nodeSeq:
		s.want(n.left, false, taken)
		s.want(n.right, false, taken)
	case nodePlus, nodeStar, nodeMaybe, nodeInverse:
		s.want(n.left, false, taken)
	}
}

func (s *settler) name(n *node, taken bool) {
	number, ok := s.numbers[n.text]
	if !ok {
		s.refuse(api.ErrName, n.at)
		return
	}
	if taken && number >= s.own {
		s.refuse(api.ErrMono, n.at)
	}
	n.number, n.set = number, s.names[number].Set
}
