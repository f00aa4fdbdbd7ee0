package search_test

import (
	"fmt"
	"slices"
	"testing"

	"belated/api"
	"belated/mach"
	"belated/search"
)

// frees is whether Free of two moves, in either order, is that.
func frees(t *testing.T, what string, x api.Test, a, b api.Move, want bool) {
	t.Helper()
	if got, turned := search.Free(x, a, b), search.Free(x, b, a); got != want || turned != want {
		t.Errorf("19.2: %s: Free of %v and %v = %v, in the other order %v, want %v", what, a, b, got, turned, want)
	}
}

// 19.2: the chapter's examples; what each case is of.
func TestFree(t *testing.T) {
	t0 := test(
		code{load(0, x), put(x, 1), swap(0, 1, x), load(0, y), fence(3, 3), konst(1, 1)},
		code{load(0, x), put(x, 1), add(0, 1, x), put(y, 1), isb(), ifZero(0, 6)},
		code{})
	for _, k := range []struct {
		what string
		a, b api.Move
		want bool
	}{
		{"two loads of x", do(0, 0), do(1, 0), true},
		{"a load and a store of x", do(0, 0), do(1, 1), false},
		{"loads and stores of x and y", do(0, 3), do(1, 1), true},
		{"two stores of x", do(0, 1), do(1, 1), false},
		{"a load and a read-modify-write of x", do(0, 0), do(1, 2), false},
		{"a store and a read-modify-write of x", do(0, 1), do(1, 2), false},
		{"two read-modify-writes of x", do(0, 2), do(1, 2), false},
		{"read-modify-writes of x and a store of y", do(0, 2), do(1, 3), true},
		{"a load and a store of y", do(0, 3), do(1, 3), false},
		{"a fence and a store", do(0, 4), do(1, 1), true},
		{"a fence and a read-modify-write", do(0, 4), do(1, 2), true},
		{"a store and an ISB", do(0, 1), do(1, 4), true},
		{"a fence and an ISB", do(0, 4), do(1, 4), true},
		{"a constant and a branch", do(0, 5), do(1, 5), true},
		{"a store and a branch", do(0, 1), do(1, 5), true},
		{"two loads of one thread", do(0, 0), do(0, 3), false},
		{"a move and itself", do(0, 4), do(0, 4), false},
		{"behind the end", do(0, 6), do(1, 4), false},
		{"behind the other's end", do(0, 4), do(1, 6), false},
		{"ahead of the first", do(0, 4), do(1, -1), false},
		{"a thread with no instruction", do(0, 4), do(2, 0), false},
		{"a thread that there is not", do(0, 4), do(3, 0), false},
		{"a thread below 0", do(0, 4), do(-1, 0), false},

		{"performed: two loads of x", perform(0, 0), perform(1, 0), true},
		{"performed: a load and a store of x", perform(0, 0), perform(1, 1), false},
		{"performed: a load of x, a store of y", perform(0, 0), perform(1, 3), true},
		{"performed: a store and a fence", perform(0, 1), perform(1, 4), true},
		{"performed: of one thread", perform(0, 0), perform(0, 3), false},
		{"performed: by its At, not its N", api.Move{Kind: api.MovePerform, Thread: 0, At: 0, N: 1}, api.Move{Kind: api.MovePerform, Thread: 1, At: 0, N: 1}, true},
		{"performed: by its At, not its N, which there is", api.Move{Kind: api.MovePerform, Thread: 0, At: 1, N: 0}, api.Move{Kind: api.MovePerform, Thread: 1, At: 1, N: 4}, false},
		{"performed: behind the end, by its At", api.Move{Kind: api.MovePerform, Thread: 0, At: 6}, perform(1, 4), false},
		{"done and performed: loads of x", do(0, 0), perform(1, 0), true},
		{"done and performed: stores of x", do(0, 1), perform(1, 1), false},
		{"done and performed: a fence, a store", do(0, 4), perform(1, 1), true},

		{"two paths", path(0, 0), path(1, 1), true},
		{"two paths of one thread", path(0, 0), path(0, 1), false},
		{"a path of a thread with no instruction", path(2, 0), do(0, 1), true},
		{"a path and a load", path(0, 0), perform(1, 0), true},
		{"a path and a store", path(0, 0), perform(1, 1), true},
		{"a path and a store that is done", path(0, 0), do(1, 1), true},
		{"a path and a drain", path(0, 0), drain(1), true},
		{"a path and what the test has not", path(0, 0), do(1, 6), true},
		{"a path and no such kind", path(0, 0), api.Move{Kind: 5, Thread: 1}, true},
		{"a path and what the thread with no instruction has not", path(0, 0), perform(2, 0), true},
		{"a path of a thread that there is not", path(3, 0), do(0, 4), false},
		{"a path, and a thread that there is not", path(0, 0), do(3, 4), false},
		{"a path, and a path below 0", path(0, 0), path(-1, 0), false},
		{"paths of threads that there are not", path(3, 0), path(4, 0), false},

		{"two drains", drain(0), drain(1), false},
		{"two drains of one thread", drain(0), drain(0), false},
		{"a drain and a load", drain(0), do(1, 0), false},
		{"a drain and a store", drain(0), do(1, 1), false},
		{"a drain and a read-modify-write", drain(0), do(1, 2), false},
		{"a drain and an ISB", drain(0), do(1, 4), true},
		{"a drain and a fence", drain(1), do(0, 4), true},
		{"a drain and a constant", drain(1), do(0, 5), true},
		{"a drain and a fence of its thread", drain(0), do(0, 4), false},
		{"a drain and an ISB that is performed", drain(0), perform(1, 4), false},
		{"a drain and a load that is performed", drain(0), perform(1, 0), false},
		{"a drain and what the test has not", drain(0), do(1, 6), false},
		{"a drain and what is ahead of the first", drain(0), do(1, -1), false},
		{"a drain of a thread that there is not", drain(3), do(1, 4), false},
		{"a drain of a thread with no instruction", drain(2), do(1, 4), true},
		{"a drain, whose At is that of a load", api.Move{Kind: api.MoveDrain, At: 0, N: 1}, do(1, 4), true},

		{"no such kind", api.Move{Kind: 0, Thread: 0, At: 4}, do(1, 4), false},
		{"no such kind above", api.Move{Kind: 5, Thread: 0, At: 4}, do(1, 4), false},
		{"no such kind below 0", api.Move{Kind: -1, Thread: 0, At: 4}, perform(1, 4), false},
		{"no such kind, twice", api.Move{Kind: 5, Thread: 0, At: 4}, api.Move{Kind: 5, Thread: 1, At: 4}, false},
		{"no such kind and a drain", api.Move{Kind: 5, Thread: 0, At: 4}, drain(1), false},
	} {
		frees(t, k.what, t0, k.a, k.b, k.want)
	}
}

// 19.2: accesses of one Loc, whatever of it they touch; of two, though they touch
// the same bytes of them.
func TestFreeGoesByLocations(t *testing.T) {
	for _, size := range sizes {
		for _, off := range offsets[size] {
			for a := range api.MaxLocs {
				for b := range api.MaxLocs {
					first, second := part(off, size, load(0, a)), part(0, 1, load(0, b))
					write, both := part(off, size, put(a, 1)), by(1, part(off, size, swap(0, 1, a)))
					x := test(code{first, write, both}, code{second, part(7, 1, put(b, 1)), part(4, 4, add(0, 1, b))})
					for i := range 3 {
						for j := range 3 {
							want := a != b || i == 0 && j == 0
							frees(t, fmt.Sprint("accesses of ", a, " and ", b), x, do(0, i), do(1, j), want)
							frees(t, fmt.Sprint("accesses of ", a, " and ", b), x, perform(0, i), perform(1, j), want)
						}
					}
				}
			}
		}
	}
}

// touched is what an instruction does to memory.
func touched(i api.Ins) (reads, writes bool) {
	return i.Op == api.OpLoad || i.Op == api.OpRmw, i.Op == api.OpStore || i.Op == api.OpRmw
}

// free is what 19.2 says, case by case.
func free(x api.Test, a, b api.Move) bool {
	there := func(m api.Move) bool { return 0 <= m.Thread && m.Thread < len(x.Code) }
	if !there(a) || !there(b) || a.Thread == b.Thread {
		return false
	}
	if a.Kind == api.MovePath || b.Kind == api.MovePath {
		return true
	}
	isOf := func(m api.Move, kinds ...int) bool {
		return slices.Contains(kinds, m.Kind) && 0 <= m.At && m.At < len(x.Code[m.Thread])
	}
	bare := func(m api.Move) bool {
		r, w := touched(x.Code[m.Thread][m.At])
		return !r && !w
	}
	if isOf(a, api.MoveDo, api.MovePerform) && isOf(b, api.MoveDo, api.MovePerform) {
		i, j := x.Code[a.Thread][a.At], x.Code[b.Thread][b.At]
		_, w := touched(i)
		_, v := touched(j)
		return bare(a) || bare(b) || i.Loc != j.Loc || !w && !v
	}
	return a.Kind == api.MoveDrain && isOf(b, api.MoveDo) && bare(b) || b.Kind == api.MoveDrain && isOf(a, api.MoveDo) && bare(a)
}

// 19.2: all pairs of moves, of each kind and none, over each operation.
func TestFreeOfAllPairs(t *testing.T) {
	c := code{konst(0, 1), move(0, 1), alu(api.FnAdd, 0, 1, 2), load(0, y), put(y, 1), swap(0, 1, y), fence(1, 2), isb()}
	d := slices.Clone(c)
	d[0], d[1], d[2] = ifZero(0, 2), load(0, x), add(0, 1, x)
	xs := []api.Test{test(c, d), test(d, c, code{put(x, 1), load(0, z)}), test(c), test(c, nil, d[:4]), test(), test(c, d, c, d)}
	var all []api.Move
	for kind := -1; kind <= 6; kind++ {
		for _, thread := range []int{-1, 0, 1, 2, 3, 4} {
			for _, at := range []int{-1, 0, 1, 2, 3, 4, 5, 6, 7, 8, 9} {
				all = append(all, api.Move{Kind: kind, Thread: thread, At: at, N: (at + 3) % 8})
			}
		}
	}
	yes := 0
	for _, x := range xs {
		for _, a := range all {
			for _, b := range all {
				want := free(x, a, b)
				if got := search.Free(x, a, b); got != want {
					t.Fatalf("19.2: Free of %v and %v = %v, want %v: %+v", a, b, got, want, x.Code)
				}
				if want {
					yes++
				}
			}
		}
	}
	if yes < 50000 {
		t.Errorf("too thin: %d pairs are Free", yes)
	}
}

// either does two moves in either order; told are the two machines, and whether
// both moves were there each time.
func either(m mach.Machine, a, b api.Move) (ab, ba mach.Machine, ok bool) {
	row := func(moves ...api.Move) (mach.Machine, bool) {
		twin := m.Twin()
		for _, move := range moves {
			if pick := slices.Index(twin.Moves(), move); pick < 0 || !twin.Do(pick) {
				return twin, false
			}
		}
		return twin, true
	}
	ab, first := row(a, b)
	ba, second := row(b, a)
	return ab, ba, first && second
}

// 19.5: of each two moves of the states of drawn walks; the other moves of a state
// are as they were, and the same comes of it, whichever of the two was ahead.
func TestFreeMovesGoInEitherOrder(t *testing.T) {
	t.Parallel()
	d := dice(191)
	pairs := map[string]int{}
	for n := range 1200 {
		x := d.drawn(n)
		for _, k := range kinds() {
			for m := k.make(x); len(m.Moves()) > 0; m.Do(d.below(len(m.Moves()))) {
				all := m.Moves()
				a, b := all[d.below(len(all))], all[d.below(len(all))]
				if !search.Free(x, a, b) {
					continue
				}
				ab, ba, ok := either(m, a, b)
				one, two := byKeys(ab), byKeys(ba)
				if !slices.Equal(one, two) || !ok && len(one) > 0 {
					t.Fatalf("19.5: %s: %v and %v come to %v, in the other order %v: %+v", k.name, a, b, one, two, x)
				}
				// A state of flat says in which order all was performed.
				if k.name != "flat" && (!ok || ab.Key() != ba.Key()) {
					t.Fatalf("19.5: %s: %v and %v come to %q, in the other order %q: %+v", k.name, a, b, ab.Key(), ba.Key(), x)
				}
				if ok {
					pairs[fmt.Sprint(k.name, " ", min(a.Kind, b.Kind), max(a.Kind, b.Kind))]++
				} else {
					pairs[k.name+" to nothing"]++
				}
			}
		}
	}
	for _, pair := range []string{"sc 2 2", "tso 2 2", "tso 2 3", "flat 1 1", "flat 1 4", "flat 4 4", "flat to nothing"} {
		if pairs[pair] < 40 {
			t.Fatalf("drawn too thin: %v", pairs)
		}
	}
}

// 19.2: of machines' moves that are not Free some do not go in either order: a
// load and a store, two stores, what drains and what reads.
func TestMovesThatAreNotFree(t *testing.T) {
	t.Parallel()
	d := dice(192)
	pairs := map[string]int{}
	for n := range 600 {
		x := d.drawn(n)
		for _, k := range kinds() {
			for m := k.make(x); len(m.Moves()) > 0; m.Do(d.below(len(m.Moves()))) {
				all := m.Moves()
				a, b := all[d.below(len(all))], all[d.below(len(all))]
				if a.Thread == b.Thread || search.Free(x, a, b) {
					continue
				}
				ab, ba, ok := either(m, a, b)
				if !ok || !slices.Equal(byKeys(ab), byKeys(ba)) {
					pairs[fmt.Sprint(k.name, " ", min(a.Kind, b.Kind), max(a.Kind, b.Kind))]++
				}
			}
		}
	}
	for _, pair := range []string{"sc 2 2", "tso 2 3", "tso 3 3", "flat 4 4"} {
		if pairs[pair] < 10 {
			t.Fatalf("drawn too thin: %v", pairs)
		}
	}
}
