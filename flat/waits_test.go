package flat_test

import (
	"fmt"
	"slices"
	"testing"

	"belated/api"
)

// turn is a place that is performed, and the places that may be performed then.
type turn struct {
	place int
	may   []int
}

const atFirst = -1 // as a turn's place: nothing is performed yet

// turns goes through a code without branches to elsewhere, on its first path.
func turns(t *testing.T, what string, x1 api.Test, row ...turn) {
	t.Helper()
	for _, s := range nearAndFar(x1) {
		m := begun(t, s.Test, s.first)
		for n, now := range row {
			if now.place != atFirst {
				goes(t, m, s.op(now.place))
			}
			if got := s.may(m); !slices.Equal(got, now.may) || m.Dead() {
				t.Errorf("17.2: %s: behind %v: %v may be performed, want %v; Dead is %v", what, row[:n+1], got, now.may, m.Dead())
			}
		}
	}
}

// waitsFor is whether of two operations at places of a code the later one waits
// for the earlier one, and for nothing else once that is performed; both may be
// performed otherwise.
func waitsFor(t *testing.T, what string, x1 api.Test, early, late int, waits bool) {
	t.Helper()
	for _, s := range nearAndFar(x1) {
		m := begun(t, s.Test, s.first)
		if got := slices.Contains(s.may(m), late); got == waits {
			t.Errorf("17.2: %s: place %d may be performed ahead of %d: %v", what, late, early, got)
		}
		if !slices.Contains(s.may(m), early) {
			t.Fatalf("17.2: %s: place %d may not be performed", what, early)
		}
		goes(t, m, s.op(early))
		if !slices.Contains(s.may(m), late) {
			t.Errorf("17.2: %s: place %d may not be performed behind %d", what, late, early)
		}
	}
}

// 17.1, 17.2: an operation waits until its address is known, and, if it writes,
// its datum: until the reads are performed that these hang on.
func TestWhatMustBeKnown(t *testing.T) {
	for _, k := range []struct {
		what string
		c    code
		row  []turn
	}{
		{"a datum", code{load(0, x), store(0, y)}, []turn{{atFirst, []int{0}}, {0, []int{1}}, {1, nil}}},
		{"a datum of 1 byte", code{load(0, x), part(3, 1, store(0, y))}, []turn{{atFirst, []int{0}}, {0, []int{1}}}},
		{"a datum of an OpRmw", code{load(0, x), swap(1, 0, y)}, []turn{{atFirst, []int{0}}, {0, []int{1}}}},
		{"a datum that an OpRmw adds", code{load(0, x), add(0, 0, y)}, []turn{{atFirst, []int{0}}, {0, []int{1}}}},
		{"an address of a load", code{load(0, x), by(0, load(1, y))}, []turn{{atFirst, []int{0}}, {0, []int{1}}}},
		{"an address of 8 bytes, which turns nothing", code{load(0, x), by(0, load(0, y))}, []turn{{atFirst, []int{0}}, {0, []int{1}}}},
		{"an address of a store", code{load(0, x), by(0, put(y, 1))}, []turn{{atFirst, []int{0}}, {0, []int{1}}}},
		{"an address of an OpRmw", code{load(0, x), by(0, add(1, 7, y))}, []turn{{atFirst, []int{0}}, {0, []int{1}}}},
		{"an address and a datum", code{load(0, x), load(1, y), by(0, store(1, z))}, []turn{{atFirst, []int{0, 1}}, {0, []int{1}}, {1, []int{2}}}},
		{"a datum and an address", code{load(0, x), load(1, y), by(0, store(1, z))}, []turn{{atFirst, []int{0, 1}}, {1, []int{0}}, {0, []int{2}}}},
		{"what a swap read", code{swap(0, 7, x), store(0, y)}, []turn{{atFirst, []int{0}}, {0, []int{1}}}},
		{"by a move", code{load(0, x), move(1, 0), store(1, y)}, []turn{{atFirst, []int{0}}, {0, []int{2}}}},
		{"by two computations", code{load(0, x), alu(api.FnXor, 1, 0, 0), aluImm(api.FnAdd, 2, 1, 1), by(2, load(3, y))}, []turn{{atFirst, []int{0}}, {0, []int{3}}}},
		{"of two reads", code{load(0, x), load(1, y), alu(api.FnAdd, 2, 0, 1), store(2, z)}, []turn{{atFirst, []int{0, 1}}, {1, []int{0}}, {0, []int{3}}}},
		{"what does not hang on what it turns to 0", code{load(0, x), aluImm(api.FnAnd, 1, 0, 0), store(1, y)}, []turn{{atFirst, []int{0}}, {0, []int{2}}}},
		{"what was laid over by a constant", code{load(0, x), konst(0, 1), store(0, y)}, []turn{{atFirst, []int{0, 2}}, {2, []int{0}}, {0, nil}}},
		{"what was laid over by another read", code{load(0, x), load(0, y), store(0, z)}, []turn{{atFirst, []int{0, 1}}, {1, []int{0, 2}}, {2, []int{0}}}},
		{"a register of its own", code{load(0, x), store(7, y)}, []turn{{atFirst, []int{0, 1}}}},
		{"a number", code{load(0, x), put(y, 1)}, []turn{{atFirst, []int{0, 1}}}},
		{"a chain", code{load(0, x), by(0, load(1, y)), by(1, load(2, z)), store(2, x)}, []turn{{atFirst, []int{0}}, {0, []int{1}}, {1, []int{2}}, {2, []int{3}}}},
		{"what it reads itself", code{by(0, load(0, x)), swap(1, 1, y)}, []turn{{atFirst, []int{0, 1}}, {1, []int{0}}}},
		{"what is read behind it", code{store(0, x), load(0, y)}, []turn{{atFirst, []int{0, 1}}, {1, []int{0}}}},
	} {
		turns(t, k.what, test(k.c), k.row...)
	}
	// What another thread reads into a register of that number is not it.
	m := begun(t, test(code{store(0, y), load(1, z)}, code{load(0, x)}))
	under(t, "of two threads", m, op(0, 0), op(0, 1), op(1, 0))
}

// 17.2, 1: a write waits until all addresses ahead of it are known, as what
// branches ahead of it ask.
func TestWritesWaitForWhatIsAsked(t *testing.T) {
	behind := []api.Ins{put(z, 1), store(7, z), part(0, 1, put(z, 1)), swap(6, 7, z), add(6, 7, z)}
	for _, i := range behind {
		for _, j := range []api.Ins{load(1, y), put(y, 1), store(7, y), swap(1, 7, y), load(1, z), part(0, 1, load(1, y))} {
			if j.Loc == z {
				j, i = part(0, 1, j), part(4, 1, i)
			}
			what := fmt.Sprintf("an address of %+v, ahead of %+v", j, i)
			c := code{load(0, x), by(0, j), i}
			turns(t, what, test(c), turn{atFirst, []int{0}}, turn{0, []int{1, 2}}, turn{2, []int{1}})
			far := code{load(0, x), by(0, j), load(2, x), i}
			waitsFor(t, what+", further off", test(far), 0, 3, true)
		}
		for _, branch := range []api.Ins{ifZero(0, 2), unless(0, 2), ifZero(0, 3), ifZero(0, 4)} {
			// The first path goes on, whatever the branch says.
			x1 := test(code{load(0, x), branch, move(1, 0), i})
			if branch.Zero {
				x1.Init[x] = 1
			}
			turns(t, fmt.Sprintf("a branch, ahead of %+v", i), x1, turn{atFirst, []int{0}}, turn{0, []int{3}})
		}
		turns(t, "two branches", from(test(code{load(0, x), load(1, y), ifZero(0, 5), ifZero(1, 5), i}), locs{1, 1}), turn{atFirst, []int{0, 1}}, turn{1, []int{0}}, turn{0, []int{4}})
		turns(t, "a branch by two reads", from(test(code{load(0, x), load(1, y), alu(api.FnOr, 2, 0, 1), ifZero(2, 5), i}), locs{1, 1}), turn{atFirst, []int{0, 1}}, turn{0, []int{1}}, turn{1, []int{4}})
		turns(t, "a branch that is known", from(test(code{load(0, x), ifZero(7, 3), i}), locs{}, file{7: 1}), turn{atFirst, []int{0, 2}})
		turns(t, "a branch ahead of the read", from(test(code{ifZero(7, 3), load(0, x), i}), locs{}, file{7: 1}), turn{atFirst, []int{1, 2}})
		turns(t, "a branch behind it", test(code{load(0, x), i, unless(0, 3)}), turn{atFirst, []int{0, 1}})
		turns(t, "data ahead of it", test(code{load(0, x), store(0, y), i}), turn{atFirst, []int{0, 2}})
		turns(t, "an address behind it", test(code{load(0, x), i, by(0, load(1, y))}), turn{atFirst, []int{0, 1}})
	}
	// A read waits for none of them.
	for _, i := range []api.Ins{load(6, z), part(0, 1, load(6, z))} {
		turns(t, "a load behind an address", test(code{load(0, x), by(0, put(y, 1)), i}), turn{atFirst, []int{0, 2}})
		turns(t, "a load behind a branch", test(code{load(0, x), ifZero(0, 2), i}), turn{atFirst, []int{0, 2}})
	}
}

// 17.2, 1: a write waits for all ahead of it that meets it; a read does not: of
// every two footprints, of one location or two.
func TestWritesWaitForWhatMeets(t *testing.T) {
	ahead := []api.Ins{load(0, x), store(6, x), put(x, 5), swap(1, 6, x), add(1, 6, x)}
	for _, j := range ahead {
		for _, i := range []api.Ins{put(x, 1), store(7, x), swap(2, 7, x), add(2, 7, x), load(2, x)} {
			for _, s1 := range sizes {
				for _, o1 := range offsets[s1] {
					for _, s2 := range sizes {
						for _, o2 := range offsets[s2] {
							a, b := part(o1, s1, j), part(o2, s2, i)
							meet := o1 < o2+s2 && o2 < o1+s1
							what := fmt.Sprintf("%+v ahead of %+v", a, b)
							// What an OpRmw writes no load is handed ahead of its turn.
							waits := meet && (i.Op != api.OpLoad || j.Op == api.OpRmw)
							waitsFor(t, what, test(code{a, b}), 0, 1, waits)
							b.Loc = y
							waitsFor(t, what, test(code{a, b}), 0, 1, false)
						}
					}
				}
			}
		}
	}
	turns(t, "what meets two", test(code{part(0, 1, put(x, 1)), part(7, 1, load(0, x)), put(x, 2)}), turn{atFirst, []int{0, 1}}, turn{0, []int{1}}, turn{1, []int{2}})
	turns(t, "past one that does not meet", test(code{load(0, x), load(1, y), put(x, 2)}), turn{atFirst, []int{0, 1}}, turn{0, []int{1, 2}})
	turns(t, "where the Index says", from(test(code{by(7, part(0, 1, load(0, x))), part(3, 1, put(x, 1))}), locs{}, file{7: 3}), turn{atFirst, []int{0}})
	turns(t, "where the Index says, elsewhere", from(test(code{by(7, part(0, 1, load(0, x))), part(3, 1, put(x, 1))}), locs{}, file{7: 4}), turn{atFirst, []int{0, 1}})
	// Where a read said that the other one lies.
	for at := range 8 {
		c := code{load(0, y), by(0, part(0, 1, load(1, x))), part(3, 1, put(x, 1))}
		want := []int{1, 2}
		if at == 3 {
			want = []int{1}
		}
		turns(t, "where a read says", from(test(c), locs{y: at}), turn{atFirst, []int{0}}, turn{0, want}, turn{1, []int{2}})
	}
	// What another thread is to do at those bytes is nothing to it.
	m := begun(t, test(code{put(x, 1)}, code{put(x, 2)}, code{swap(0, 1, x)}))
	under(t, "of three threads", m, op(0, 0), op(1, 0), op(2, 0))
}

// 17.2, 2: of every two operations with every mark.
func TestMarks(t *testing.T) {
	every := []api.Ins{
		load(0, x), acq(load(0, x)), weak(load(0, x)), put(x, 1), rel(put(x, 1)),
		swap(0, 7, x), acq(swap(0, 7, x)), rel(swap(0, 7, x)), marked(true, false, true, add(0, 7, x)),
	}
	for _, j := range every {
		for _, i := range every {
			i.Loc = y
			if i.Dst >= 0 {
				i.Dst = 1
			}
			waits := j.Acq || j.Weak || i.Rel || i.Acq && j.Rel
			what := fmt.Sprintf("%+v ahead of %+v", j, i)
			waitsFor(t, what, test(code{j, i}), 0, 1, waits)
			between := load(2, z)
			if i.Rel {
				between = isb()
			}
			waitsFor(t, what+", further off", test(code{j, konst(3, 1), between, i}), 0, 3, waits)
			waitsFor(t, what+", the other way round", test(code{i, j}), 0, 1, i.Acq || i.Weak || j.Rel || j.Acq && i.Rel)
		}
	}
	turns(t, "Rel waits for all", test(code{load(0, x), put(y, 1), load(1, x), rel(put(z, 1))}), turn{atFirst, []int{0, 1, 2}}, turn{2, []int{0, 1}}, turn{0, []int{1}}, turn{1, []int{3}})
	turns(t, "all wait for Acq", test(code{acq(load(0, x)), load(1, y), put(z, 1), swap(2, 7, y)}), turn{atFirst, []int{0}}, turn{0, []int{1, 2}})
	turns(t, "all wait for Weak", test(code{weak(load(0, x)), load(1, y), put(z, 1)}), turn{atFirst, []int{0}}, turn{0, []int{1, 2}})
	turns(t, "Acq waits for Rel alone", test(code{rel(put(x, 1)), put(y, 1), acq(load(0, z)), load(1, y)}), turn{atFirst, []int{0, 1}}, turn{0, []int{1, 2}}, turn{2, []int{1, 3}})
	turns(t, "Weak does not wait for Rel", test(code{rel(put(x, 1)), weak(load(0, z))}), turn{atFirst, []int{0, 1}})
	m := begun(t, test(code{acq(load(0, x))}, code{load(0, y), rel(put(z, 1))}, code{acq(load(0, z))}))
	under(t, "of other threads", m, op(0, 0), op(1, 0), op(2, 0))
}

// 17.2, 3: of every Pred and Succ, between every two kinds of operations.
func TestFences(t *testing.T) {
	kinds := []struct {
		i     api.Ins
		sides int
	}{{load(0, x), 1}, {put(x, 1), 2}, {store(7, x), 2}, {swap(0, 7, x), 3}, {add(0, 7, x), 3}}
	for pred := 1; pred <= 3; pred++ {
		for succ := 1; succ <= 3; succ++ {
			for _, j := range kinds {
				for _, k := range kinds {
					f, i := fence(pred, succ), k.i
					i.Loc = y
					if i.Dst >= 0 {
						i.Dst = 1
					}
					waits := pred&j.sides != 0 && succ&k.sides != 0
					what := fmt.Sprintf("%+v, a fence %d %d, %+v", j.i, pred, succ, i)
					waitsFor(t, what, test(code{j.i, f, i}), 0, 2, waits)
					waitsFor(t, what+", further off", test(code{j.i, konst(3, 1), f, move(4, 3), i}), 0, 4, waits)
					waitsFor(t, what+": the fence ahead of both", test(code{f, j.i, i}), 1, 2, false)
					waitsFor(t, what+": the fence behind both", test(code{j.i, i, f}), 0, 1, false)
				}
			}
		}
	}
	turns(t, "two fences", test(code{load(0, x), fence(1, 1), put(y, 1), fence(2, 2), load(1, z)}), turn{atFirst, []int{0, 2}}, turn{2, []int{0}}, turn{0, []int{4}})
	turns(t, "two fences do not add up", test(code{load(0, x), fence(1, 2), fence(2, 1), load(1, z)}), turn{atFirst, []int{0, 3}})
	turns(t, "two fences that both hold", test(code{load(0, x), fence(1, 2), put(y, 1), fence(2, 1), load(1, z)}), turn{atFirst, []int{0}}, turn{0, []int{2}}, turn{2, []int{4}})
	turns(t, "a fence waits for nothing itself", test(code{load(0, x), fence(3, 3), konst(0, 1), fence(3, 3)}), turn{atFirst, []int{0}}, turn{0, nil})
	m := begun(t, test(code{load(0, x), fence(3, 3), put(y, 1)}, code{load(0, x), put(y, 2)}))
	under(t, "a fence of another thread", m, op(0, 0), op(1, 0), op(1, 1))
	// A fence on the other way of a branch is none.
	m = begun(t, from(test(code{ifZero(7, 3), load(0, x), fence(3, 3), load(1, y), load(2, z)}), locs{}, file{7: 1}))
	under(t, "a fence on the path", m, op(0, 1))
	m = begun(t, test(code{load(0, x), ifZero(7, 3), fence(3, 3), load(1, y)}), 1)
	under(t, "a fence beside the path", m, op(0, 0), at(0, 3, 2))
}

// 17.2, 4: a read behind an ISB waits until it is known what branches ahead of
// that ask, and where operations ahead of that lie.
func TestIsbs(t *testing.T) {
	one := locs{x: 1, z: 1}
	for _, k := range []struct {
		what string
		c    code
		row  []turn
	}{
		{"nothing ahead", code{load(0, x), isb(), load(1, y)}, []turn{{atFirst, []int{0, 2}}}},
		{"a branch", code{load(0, x), ifZero(0, 2), isb(), load(1, y)}, []turn{{atFirst, []int{0}}, {0, []int{3}}}},
		{"a branch, and no ISB", code{load(0, x), ifZero(0, 2), load(1, y)}, []turn{{atFirst, []int{0, 2}}}},
		{"a branch behind the ISB", code{load(0, x), isb(), ifZero(0, 3), load(1, y)}, []turn{{atFirst, []int{0, 3}}}},
		{"a branch that is known", code{load(0, x), ifZero(7, 2), isb(), load(1, y)}, []turn{{atFirst, []int{0, 3}}}},
		{"two branches", code{load(0, x), load(2, z), ifZero(0, 4), ifZero(2, 4), isb(), load(1, y)}, []turn{{atFirst, []int{0, 1}}, {1, []int{0}}, {0, []int{5}}}},
		{"a load ahead of the ISB", code{load(0, x), ifZero(0, 2), load(1, y), isb()}, []turn{{atFirst, []int{0, 2}}}},
		{"an address of a load", code{load(0, x), by(0, load(1, y)), isb(), load(2, z)}, []turn{{atFirst, []int{0}}, {0, []int{1, 3}}}},
		{"an address of a store", code{load(0, x), by(0, put(y, 1)), isb(), load(2, z)}, []turn{{atFirst, []int{0}}, {0, []int{1, 3}}}},
		{"an address of an OpRmw", code{load(0, x), by(0, swap(1, 7, y)), isb(), load(2, z)}, []turn{{atFirst, []int{0}}, {0, []int{1, 3}}}},
		{"an address behind the ISB", code{load(0, x), isb(), by(0, load(1, y)), load(2, z)}, []turn{{atFirst, []int{0, 3}}}},
		{"data ahead of the ISB", code{load(0, x), store(0, y), isb(), load(2, z)}, []turn{{atFirst, []int{0, 3}}}},
		{"a store behind a branch and an ISB", code{load(0, x), ifZero(0, 2), isb(), put(y, 1)}, []turn{{atFirst, []int{0}}, {0, []int{3}}}},
		{"two ISBs, the first one behind it", code{load(0, x), ifZero(0, 2), isb(), load(1, y), isb(), load(2, z)}, []turn{{atFirst, []int{0}}, {0, []int{3, 5}}}},
		{"two ISBs, the last one behind it", code{isb(), load(0, x), ifZero(0, 3), isb(), load(1, y)}, []turn{{atFirst, []int{1}}, {1, []int{4}}}},
		{"two ISBs, one between the branches", code{load(0, x), isb(), ifZero(0, 3), load(1, y), ifZero(1, 5), isb(), load(2, z)}, []turn{{atFirst, []int{0, 3}}, {3, []int{0}}}},
	} {
		turns(t, k.what, from(test(k.c), one, file{7: 1}), k.row...)
	}
	// An OpRmw reads, too; a store behind an ISB waits by 1 alone.
	turns(t, "an OpRmw behind data", test(code{load(0, x), store(0, y), isb(), swap(2, 7, z)}), turn{atFirst, []int{0, 3}})
	m := begun(t, test(code{load(0, x), isb(), load(1, z)}, code{load(0, x), ifZero(0, 2), load(1, y)}))
	under(t, "a branch of another thread", m, op(0, 0), op(0, 2), op(1, 0), op(1, 2))
}

// 17.2, 5: what a read may be handed ahead of its turn, and what not.
func TestWhatIsHandedOn(t *testing.T) {
	for _, k := range []struct {
		what string
		c    code
		row  []turn
	}{
		{"a number", code{load(0, y), put(x, 1), load(1, x)}, []turn{{atFirst, []int{0, 1, 2}}}},
		{"a register of its own", code{load(0, y), store(7, x), load(1, x)}, []turn{{atFirst, []int{0, 1, 2}}}},
		{"a datum that is not known", code{load(0, y), store(0, x), load(1, x)}, []turn{{atFirst, []int{0}}, {0, []int{1, 2}}, {2, []int{1}}}},
		{"a datum of 1 byte", code{load(0, y), part(2, 1, store(0, x)), load(1, x)}, []turn{{atFirst, []int{0}}, {0, []int{1, 2}}}},
		{"a datum beside it", code{load(0, y), part(0, 4, store(0, x)), part(4, 4, load(1, x))}, []turn{{atFirst, []int{0, 2}}}},
		{"a datum of another location", code{load(0, y), store(0, z), load(1, x)}, []turn{{atFirst, []int{0, 2}}}},
		{"a datum, laid over", code{load(0, y), store(0, x), put(x, 1), load(1, x)}, []turn{{atFirst, []int{0, 3}}, {3, []int{0}}}},
		{"a datum, laid over in part", code{load(0, y), store(0, x), part(0, 4, put(x, 1)), load(1, x)}, []turn{{atFirst, []int{0}}, {0, []int{1, 3}}}},
		{"a datum, laid over where it is read", code{load(0, y), store(0, x), part(0, 4, put(x, 1)), part(0, 4, load(1, x))}, []turn{{atFirst, []int{0, 3}}}},
		{"a number, laid over by a datum", code{load(0, y), put(x, 1), store(0, x), load(1, x)}, []turn{{atFirst, []int{0, 1}}, {0, []int{1, 3}}}},
		{"what is read ahead of the write", code{load(0, y), load(1, x), store(0, x)}, []turn{{atFirst, []int{0, 1}}}},
		{"an OpRmw", code{swap(0, 7, x), load(1, x)}, []turn{{atFirst, []int{0}}, {0, []int{1}}}},
		{"an OpRmw that adds, in part", code{part(2, 2, add(0, 7, x)), load(1, x)}, []turn{{atFirst, []int{0}}, {0, []int{1}}}},
		{"an OpRmw beside it", code{part(0, 4, swap(0, 7, x)), part(4, 4, load(1, x))}, []turn{{atFirst, []int{0, 1}}}},
		{"an OpRmw, laid over", code{swap(0, 7, x), put(x, 1), load(1, x)}, []turn{{atFirst, []int{0, 2}}, {2, []int{0}}}},
		{"an OpRmw, laid over in part", code{swap(0, 7, x), part(0, 4, put(x, 1)), load(1, x)}, []turn{{atFirst, []int{0}}, {0, []int{1, 2}}}},
		{"a number, laid over by an OpRmw", code{put(x, 1), part(7, 1, swap(0, 7, x)), load(1, x)}, []turn{{atFirst, []int{0}}, {0, []int{1}}, {1, []int{2}}}},
		{"an address that is not known", code{load(0, y), by(0, part(0, 1, put(x, 1))), part(3, 1, load(1, x))}, []turn{{atFirst, []int{0, 2}}}},
		{"an address of an OpRmw that is not known", code{load(0, y), by(0, part(0, 1, swap(2, 7, x))), part(3, 1, load(1, x))}, []turn{{atFirst, []int{0, 2}}}},
		{"an address that is known, a datum that is not", code{load(0, y), load(1, z), by(0, part(0, 1, store(1, x))), part(0, 1, load(2, x))}, []turn{{atFirst, []int{0, 1, 3}}, {0, []int{1}}, {1, []int{2, 3}}}},
		{"an address that is not known, over a datum that is not", code{load(0, y), load(1, z), store(1, x), by(0, part(0, 1, put(x, 1))), part(0, 1, load(2, x))}, []turn{{atFirst, []int{0, 1}}, {0, []int{1, 4}}}},
		{"a datum, performed", code{load(0, y), store(0, x), load(1, x)}, []turn{{atFirst, []int{0}}, {0, []int{1, 2}}, {1, []int{2}}}},
		{"a datum that hangs on what is handed on", code{put(x, 1), load(0, x), store(0, y), load(1, y)}, []turn{{atFirst, []int{0, 1}}, {1, []int{0, 2, 3}}, {3, []int{0, 2}}}},
	} {
		turns(t, k.what, test(k.c), k.row...)
	}
	m := begun(t, test(code{load(0, y), store(0, x)}, code{load(1, x)}, code{swap(0, 7, x)}))
	under(t, "what others are to write", m, op(0, 0), op(1, 0), op(2, 0))
}
