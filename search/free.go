package search

import "belated/api"

// Free tells whether two moves, of machines of a right test, are taken to be
// independent. A path is chosen by a thread for itself; a drain is of a write of
// which the move tells nothing, so it may meet any other that touches memory.
func Free(t api.Test, a, b api.Move) bool {
	if a.Thread == b.Thread || !has(t, a.Thread) || !has(t, b.Thread) {
		return false
	}
	switch {
	case a.Kind == api.MovePath || b.Kind == api.MovePath:
		return true
	case a.Kind == api.MoveDrain:
		return passes(t, b)
	case b.Kind == api.MoveDrain:
		return passes(t, a)
	}
	i, ok := does(t, a)
	j, also := does(t, b)
	return ok && also && !meet(i, j)
}

// has tells whether a test has a thread.
func has(t api.Test, thread int) bool {
	return thread >= 0 && thread < len(t.Code)
}

// does is the instruction that a move does or performs; false, if the move is
// of another kind, or the thread, which there is, has no such instruction.
func does(t api.Test, m api.Move) (api.Ins, bool) {
	c := t.Code[m.Thread]
	if m.Kind != api.MoveDo && m.Kind != api.MovePerform || m.At < 0 || m.At >= len(c) {
		return api.Ins{}, false
	}
	return c[m.At], true
}

// passes tells whether a move does an instruction that touches no memory.
func passes(t api.Test, m api.Move) bool {
	i, ok := does(t, m)
	return ok && m.Kind == api.MoveDo && !touches(i)
}

// meet tells whether it may matter which of two instructions is ahead.
func meet(i, j api.Ins) bool {
	return touches(i) && touches(j) && i.Loc == j.Loc && (writes(i) || writes(j))
}

func touches(i api.Ins) bool {
	return i.Op == api.OpLoad || writes(i)
}

func writes(i api.Ins) bool {
	return i.Op == api.OpStore || i.Op == api.OpRmw
}
