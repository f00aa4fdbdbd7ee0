package search

import (
	"iter"
	"slices"

	"belated/api"
	"belated/mach"
)

// node is a state that a walk comes to.
type node struct {
	mach.Machine
	from   *node // the state ahead; nil of that with which the walk begins
	pick   int   // which of that one's moves was done
	asleep []api.Move
}

// states is the states that come of a machine's, each once, by the first row of
// picks that comes to it: rows are gone through in the order of their picks. The
// machine itself does nothing.
//
// No outcome is lost where moves sleep: the first of all rows that come to it is
// gone through. For what sleeps on a row could have been done where it fell asleep,
// with the same to come, and that is an earlier row; and a state that was seen was
// come to by an earlier row, with the same to come.
func states(m mach.Machine, free func(a, b api.Move) bool) iter.Seq[*node] {
	return func(yield func(*node) bool) {
		seen := map[string]struct{}{}
		todo := []*node{{Machine: m}}
		for len(todo) > 0 {
			last := len(todo) - 1
			n := todo[last]
			todo = todo[:last]
			key := n.Key()
			if _, ok := seen[key]; ok {
				continue
			}
			seen[key] = struct{}{}
			if !yield(n) {
				return
			}
			next := n.next(free)
			slices.Reverse(next) // what is last in todo is gone through first
			todo = append(todo, next...)
		}
	}
}

// next is the states behind the moves that do not sleep. Each of these moves sleeps
// in what follows the later ones, as long as it is free of what is done there.
func (n *node) next(free func(a, b api.Move) bool) []*node {
	var next []*node
	asleep := slices.Clone(n.asleep)
	for pick, move := range n.Moves() {
		if slices.Contains(n.asleep, move) {
			continue
		}
		twin := n.Twin()
		twin.Do(pick)
		var still []api.Move
		for _, a := range asleep {
			if free(a, move) {
				still = append(still, a)
			}
		}
		next = append(next, &node{twin, n, pick, still})
		asleep = append(asleep, move)
	}
	return next
}

// picks is the row of those that led to the state.
func (n *node) picks() []int {
	var picks []int
	for ; n.from != nil; n = n.from {
		picks = append(picks, n.pick)
	}
	slices.Reverse(picks)
	return picks
}
