package flat_test

import (
	"fmt"
	"testing"

	"belated/api"
	"belated/flat"
)

// is is whether a machine is dead, or goes on.
func is(t *testing.T, what string, m *flat.Machine, dead bool) {
	t.Helper()
	if m.Dead() != dead {
		t.Errorf("17.3: %s: Dead is %v", what, m.Dead())
	}
	if dead {
		dies(t, what, m)
		stuck(t, m)
	}
}

// 17.3: a branch of which it is known what it asks goes as the path does, or the
// state is dead: as soon as the path is chosen, or as the read is performed.
func TestStray(t *testing.T) {
	for _, v := range []int{0, 1, -1, 256, 1 << 32, -1 << 63} {
		for _, zero := range []bool{true, false} {
			for n := range 2 {
				goesTo := (v == 0) == zero
				dead := goesTo != (n == 1)
				branch := func(a, to int) api.Ins {
					i := unless(a, to)
					i.Zero = zero
					return i
				}
				what := fmt.Sprintf("a branch by %d, if zero: %v, path %d", v, zero, n)
				m := begun(t, from(test(code{branch(7, 2), put(x, 1)}), locs{}, file{7: v}), n)
				is(t, what+", known at once", m, dead)
				m = begun(t, from(test(code{branch(7, 2), load(0, x), load(1, y)}), locs{}, file{7: v}), n)
				is(t, what+", known at once, on to more", m, dead)
				m = begun(t, from(test(code{put(x, 1), branch(7, 3), isb()}), locs{}, file{7: v}), n)
				is(t, what+", the path's last or not", m, dead)
				m = begun(t, from(test(code{konst(1, v), branch(1, 3), konst(1, 0)}), locs{}, file{}), n)
				is(t, what+", by a constant", m, dead)
				for _, i := range []api.Ins{load(0, x), swap(0, 6, x)} {
					m = begun(t, from(test(code{i, branch(0, 3), put(y, 1)}, code{load(0, x)}), locs{v}), n)
					is(t, what+", not known yet", m, false)
					goes(t, m, op(1, 0))
					is(t, what+", not known yet", m, false)
					goes(t, m, op(0, 0))
					is(t, what+", read", m, dead)
				}
				// To the next instruction both ways go, along one path.
				if n == 0 {
					m = begun(t, from(test(code{branch(7, 1), load(0, x), branch(0, 3)}), locs{v}, file{7: v}))
					under(t, what+", to the next one", m, op(0, 1))
					goes(t, m, op(0, 1))
					ends(t, what+", to the next one", m, locs{v}, file{0: v, 7: v})
				}
			}
		}
	}
}

// 17.3: of several branches any that goes another way is one too many; what is
// performed beside them turns nothing.
func TestStrays(t *testing.T) {
	c := code{load(0, x), ifZero(0, 3), load(1, y), ifZero(1, 5), put(z, 1)}
	for vx := range 2 {
		for vy := range 2 {
			for n := range 4 {
				m := begun(t, from(test(c), locs{vx, vy}), n)
				// The paths are 0 1 2 3 4, 0 1 2 3, 0 1 3 4 and 0 1 3.
				if n < 2 {
					goes(t, m, at(0, 2, 2))
					is(t, "the second branch", m, (vy == 0) != (n == 1))
				} else {
					// The second branch asks r1, which is 0 here, and goes to the end.
					is(t, "the second branch, known at once", m, n == 2)
				}
				if m.Dead() {
					continue
				}
				goes(t, m, at(0, 0, 0))
				is(t, "the first branch", m, (vx == 0) != (n >= 2))
			}
		}
	}
	// Of another thread.
	m := begun(t, test(code{put(x, 1)}, code{load(0, y)}, code{load(0, x), ifZero(0, 3), load(1, y)}))
	goes(t, m, op(0, 0), op(1, 0))
	is(t, "nothing of the last one is known", m, false)
	goes(t, m, op(2, 0))
	is(t, "the last one goes on", m, false)
	m = begun(t, test(code{put(x, 1)}, code{load(0, y)}, code{load(0, x), ifZero(0, 3), load(1, y)}))
	goes(t, m, op(2, 0))
	is(t, "the last one goes another way", m, true)
	// By a value of two reads, that is known at the second one.
	m = begun(t, from(test(code{load(0, x), load(1, y), alu(api.FnSub, 2, 0, 1), ifZero(2, 5), put(z, 1)}), locs{5, 5}))
	goes(t, m, op(0, 1))
	is(t, "one of two reads", m, false)
	goes(t, m, op(0, 0))
	is(t, "both reads", m, true)
}

// 17.3: a read that was performed ahead of a write of its path, once it is known
// that this touches a byte of it: of every read, every write, byte by byte.
func TestMissed(t *testing.T) {
	for _, w := range []api.Ins{put(x, 9), store(7, x), swap(2, 7, x), add(2, 7, x)} {
		for _, s1 := range sizes {
			for _, s2 := range sizes {
				for _, o2 := range offsets[s2] {
					for at := range 8 {
						r := part(o2, s2, load(1, x))
						begin := at / s1 * s1
						touches := begin < o2+s2 && o2 < begin+s1
						what := fmt.Sprintf("%d bytes at %d, ahead of a write of %d at %d", s2, o2, s1, begin)
						x1 := from(test(code{load(0, y), by(0, part(0, s1, w)), r}), locs{-1, at})
						m := begun(t, x1)
						if s1 == 8 || s2 == 8 {
							// It lies in x, whatever the read says: but it is not known.
							under(t, what, m, op(0, 0), op(0, 2))
						}
						goes(t, m, op(0, 2))
						is(t, what+", not known yet", m, false)
						goes(t, m, op(0, 0))
						is(t, what, m, touches)
						m = begun(t, x1)
						goes(t, m, op(0, 0), op(0, 1), op(0, 2))
						is(t, what+", in turn", m, false)
						if w.Op == api.OpStore {
							m = begun(t, x1)
							goes(t, m, op(0, 0), op(0, 2), op(0, 1))
							is(t, what+", which was handed on", m, false)
						}
						x1.Code[0][1].Loc = z
						m = begun(t, x1)
						goes(t, m, op(0, 2), op(0, 0))
						is(t, what+", elsewhere", m, false)
					}
				}
			}
		}
	}
}

// 17.3: bytes that were taken from a write of the own path at that place or
// behind: these it did not pass over.
func TestMissedNot(t *testing.T) {
	for at := range 8 {
		for b := range 8 {
			for _, s := range []int{1, 2, 4, 8} {
				r := part(b/s*s, s, load(1, x))
				within := at >= r.Off && at < r.Off+s
				unknown := by(0, part(0, 1, put(x, 9)))
				// One behind it gave it byte b; others it took from Init.
				m := begun(t, from(test(code{load(0, y), unknown, part(b, 1, put(x, 8)), r}), locs{-1, at}))
				goes(t, m, op(0, 3), op(0, 0))
				is(t, fmt.Sprintf("a write of byte %d, behind it one of %d, a load of %d", at, b, s), m, within && at != b)
				// One ahead of it did.
				m = begun(t, from(test(code{load(0, y), part(b, 1, put(x, 8)), unknown, r}), locs{-1, at}))
				goes(t, m, op(0, 3), op(0, 0))
				is(t, fmt.Sprintf("a write of byte %d, ahead of it one of %d, a load of %d", at, b, s), m, within)
				// One ahead of it that was performed.
				m = begun(t, from(test(code{load(0, y), part(b, 1, put(x, 8)), unknown, r}), locs{-1, at}))
				goes(t, m, op(0, 1), op(0, 3), op(0, 0))
				is(t, fmt.Sprintf("a write of byte %d, ahead of it one of %d in the row, a load of %d", at, b, s), m, within)
			}
		}
	}
	// Two that were passed over: either is enough; the last one is none.
	for at := range 2 {
		for also := range 2 {
			m := begun(t, from(test(code{load(0, y), load(3, z), by(0, part(0, 1, put(x, 1))), by(3, part(0, 1, put(x, 2))), part(0, 1, load(1, x))}), locs{-1, at, also}))
			goes(t, m, op(0, 4), op(0, 1))
			is(t, "the last write", m, also == 0)
			if also == 0 {
				continue
			}
			goes(t, m, op(0, 0))
			is(t, "the first write", m, at == 0)
		}
	}
}

// 17.3: a write of another thread, at whatever place there, is not one of the
// own path; what others passed over is nothing.
func TestMissedOfOthers(t *testing.T) {
	for behind := range 4 {
		// Thread 1's write of x is at place 0 to 3.
		c := code{isb(), isb(), isb(), isb()}
		c[behind] = put(x, 5)
		m := begun(t, from(test(code{load(0, y), by(0, part(0, 1, put(x, 9))), part(0, 1, load(1, x))}, c), locs{-1, 0}))
		goes(t, m, op(1, behind), op(0, 2), op(0, 0))
		is(t, fmt.Sprintf("a byte of another thread's place %d", behind), m, true)
	}
	m := begun(t, test(code{load(0, y), by(0, part(0, 1, put(x, 9)))}, code{load(0, x)}))
	goes(t, m, op(1, 0), op(0, 0))
	is(t, "a write of another thread", m, false)
	m = begun(t, test(code{load(0, x), put(x, 1)}))
	goes(t, m, op(0, 0))
	is(t, "a write behind the read", m, false)
	goes(t, m, op(0, 1))
	is(t, "a write behind the read", m, false)
	// Of a read that is not performed nothing was missed.
	m = begun(t, test(code{load(0, y), by(0, part(0, 1, put(x, 9))), part(0, 1, load(1, x))}))
	goes(t, m, op(0, 0))
	is(t, "a read that is not performed", m, false)
	goes(t, m, op(0, 1))
	is(t, "a read that is not performed", m, false)
}

// 17.3: two reads, the later one performed first: of every two, and of every
// write of another thread between them, byte by byte.
func TestCrossed(t *testing.T) {
	for _, s1 := range sizes {
		for _, o1 := range offsets[s1] {
			for _, s2 := range sizes {
				for _, o2 := range offsets[s2] {
					for b := range 8 {
						in := func(o, s int) bool { return b >= o && b < o+s }
						what := fmt.Sprintf("reads of %d at %d and %d at %d, a write of byte %d", s1, o1, s2, o2, b)
						x1 := from(test(code{part(o1, s1, load(0, x)), part(o2, s2, load(1, x))}, code{part(b, 1, put(x, 0))}), locs{})
						crossed(t, what, x1, in(o1, s1) && in(o2, s2))
					}
				}
			}
		}
	}
}

// crossed performs the last place of thread 0, what thread 1 does, then the first
// place; and in turn, which never is dead.
func crossed(t *testing.T, what string, x1 api.Test, dead bool) {
	t.Helper()
	last, w := len(x1.Code[0])-1, op(1, 0)
	for _, s := range nearAndFar(x1) {
		m := begun(t, s.Test, s.first)
		goes(t, m, s.op(last))
		is(t, what+", one alone", m, false)
		goes(t, m, w)
		is(t, what+", not both yet", m, false)
		goes(t, m, s.op(0))
		is(t, what, m, dead)
		for _, row := range [][]api.Move{{s.op(last), s.op(0), w}, {w, s.op(last), s.op(0)}, {s.op(0), w, s.op(last)}} {
			m = begun(t, s.Test, s.first)
			goes(t, m, row...)
			is(t, what+", of one source or in turn", m, false)
		}
	}
}

// 17.3: what is between the two reads, and what their sources are.
func TestCrossedWays(t *testing.T) {
	w := code{put(x, 0)}
	for _, k := range []struct {
		what string
		c    code
		dead bool
	}{
		{"nothing between", code{load(0, x), load(1, x)}, true},
		{"of two locations", code{load(0, x), load(1, y)}, false},
		{"a read between", code{load(0, x), load(2, x), load(1, x)}, true},
		{"a fence, an ISB, a constant between", code{load(0, x), fence(2, 2), isb(), konst(2, 1), load(1, x)}, true},
		{"a write of another location between", code{load(0, x), put(y, 1), load(1, x)}, true},
		{"a write of another byte between", code{part(0, 1, load(0, x)), part(1, 1, put(x, 1)), part(0, 2, load(1, x))}, true},
		{"the first one's bytes alone are common", code{part(0, 1, load(0, x)), load(1, x)}, true},
	} {
		crossed(t, k.what, test(k.c, w), k.dead)
	}
	// A write between that touches the byte: this is its source.
	for _, k := range []struct {
		size int
		dead bool
	}{{8, false}, {4, true}, {1, true}} {
		m := begun(t, test(code{load(0, x), part(0, k.size, put(x, 1)), load(1, x)}, w))
		goes(t, m, op(0, 2), op(1, 0), op(0, 0))
		is(t, fmt.Sprintf("a write of %d bytes between", k.size), m, k.dead)
	}
	m := begun(t, test(code{part(0, 1, load(0, x)), part(0, 1, put(x, 1)), load(1, x)}, w))
	goes(t, m, op(0, 2), op(1, 0), op(0, 0))
	is(t, "a write of all that is common", m, false)
	// Values do not count: both are of writes that write the same.
	m = begun(t, from(test(code{load(0, x), load(1, x)}, code{put(x, 5)}, code{put(x, 5)}), locs{5}))
	goes(t, m, op(1, 0), op(0, 1), op(2, 0), op(0, 0))
	is(t, "two writes of one value", m, true)
	// A write of the own path is a source like others.
	m = begun(t, test(code{put(x, 1), load(0, x), load(1, x)}, w))
	goes(t, m, op(0, 2), op(0, 1))
	is(t, "both were handed on", m, false)
	m = begun(t, test(code{put(x, 1), load(0, x), load(1, x)}, w))
	goes(t, m, op(0, 2), op(0, 0), op(0, 1))
	is(t, "one was handed on, one read it in memory", m, false)
	m = begun(t, test(code{put(x, 1), load(0, x), load(1, x)}, w))
	goes(t, m, op(0, 2), op(0, 0), op(1, 0), op(0, 1))
	is(t, "one was handed on, one read another one's", m, true)
	// Reads of two threads.
	m = begun(t, test(code{load(0, x)}, w, code{load(0, x)}))
	goes(t, m, op(2, 0), op(1, 0), op(0, 0))
	is(t, "reads of two threads", m, false)
	// An OpRmw as the first one, of which it was not known where it lies: it is no
	// write between, but one that was passed over.
	m = begun(t, test(code{load(0, y), by(0, part(0, 1, swap(2, 7, x))), part(0, 1, load(1, x))}, w))
	goes(t, m, op(0, 2), op(1, 0), op(0, 0))
	is(t, "an OpRmw that was passed over", m, true)
}

// 17.3: as long as it is not known where a write between lies, the reads may
// stand; even where it can lie only elsewhere.
func TestCrossedUnknown(t *testing.T) {
	for _, loc := range []int{x, y, z} {
		for at := range 8 {
			for _, i := range []api.Ins{put(loc, 1), swap(3, 7, loc)} {
				c := code{load(2, y), part(0, 2, load(0, x)), by(2, part(0, 1, i)), part(0, 2, load(1, x))}
				what := fmt.Sprintf("a write between, of byte %d of location %d", at, loc)
				for _, s := range nearAndFar(from(test(c, code{put(x, 0)}), locs{x: -1, y: at})) {
					m := begun(t, s.Test, s.first)
					goes(t, m, s.op(3), op(1, 0), s.op(1))
					is(t, what+", not known yet", m, false)
					under(t, what+", not known yet", m, s.op(0))
					goes(t, m, s.op(0))
					// If it touches one of the two bytes, the last read passed over it.
					is(t, what, m, true)
				}
			}
		}
	}
	// Of two writes between, one is known not to touch it.
	m := begun(t, test(code{load(2, y), load(0, x), put(z, 1), by(2, part(0, 1, put(z, 1))), load(1, x)}, code{put(x, 0)}))
	goes(t, m, op(0, 4), op(1, 0), op(0, 1))
	is(t, "one of two is not known", m, false)
	goes(t, m, op(0, 0))
	is(t, "both are known", m, true)
	// One that is not between.
	m = begun(t, test(code{load(2, y), by(2, part(0, 1, put(z, 1))), load(0, x), load(1, x), by(2, part(0, 1, put(z, 1)))}, code{put(x, 0)}))
	goes(t, m, op(0, 3), op(1, 0), op(0, 2))
	is(t, "writes beside them", m, true)
	// Known, and it covers what is common: alive to the end.
	m = begun(t, from(test(code{load(2, y), load(0, x), by(2, put(x, 7)), load(1, x)}, code{put(x, 5)}), locs{y: 3}))
	goes(t, m, op(0, 0), op(0, 3), op(1, 0), op(0, 1))
	is(t, "a write between, known", m, false)
	goes(t, m, op(0, 2))
	ends(t, "a write between, known", m, locs{7, 3}, file{5, 7, 3})
}

// 17.4: of a state that is dead nothing is left, whatever else could be done.
func TestNothingOfTheDead(t *testing.T) {
	m := machine(t, test(code{unless(7, 2), put(x, 1), load(0, x)}, code{put(y, 1)}, code{load(0, y)}))
	goes(t, m, path(1, 0), path(0, 1))
	dies(t, "one thread's branch", m)
	stuck(t, m)
	// All is performed, and it is dead.
	m = begun(t, from(test(code{load(0, x), ifZero(0, 2), ifZero(0, 4), isb()}), locs{}))
	goes(t, m, op(0, 0))
	dies(t, "all is performed", m)
	m = begun(t, test(code{load(0, x), load(1, x)}, code{put(x, 1)}))
	goes(t, m, op(0, 1), op(1, 0), op(0, 0))
	dies(t, "all is performed, crossed", m)
	stuck(t, m)
}
