package flat_test

import (
	"math"
	"testing"

	"belated/api"
	"belated/flat"
	"belated/mach"
)

// calls is all that the machine tells.
type calls interface {
	mach.Machine
	Dead() bool
}

var _ calls = (*flat.Machine)(nil)

// buffering is the test of store buffering.
func buffering() api.Test {
	return test(code{put(x, 1), load(0, y)}, code{put(y, 1), load(0, x)})
}

// The chapter's table.
func TestExamples(t *testing.T) {
	m := machine(t, buffering())
	under(t, "store buffering", m, path(0, 0), path(1, 0))
	goes(t, m, path(0, 0), path(1, 0))
	under(t, "both chosen", m, op(0, 0), op(0, 1), op(1, 0), op(1, 1))
	m = begun(t, test(code{load(0, x), store(0, y)}))
	under(t, "r0 = x; y = r0", m, op(0, 0))
	for _, branch := range []api.Ins{ifZero(0, 3), unless(0, 3)} {
		m = begun(t, from(test(code{load(0, x), branch, put(y, 1)}), locs{x: 1}))
		under(t, "r0 = x; branch by r0; y = 1", m, op(0, 0))
		goes(t, m, op(0, 0))
		if branch.Zero {
			under(t, "performed the right way", m, at(0, 2, 2))
		} else {
			dies(t, "performed the wrong way", m)
		}
	}
}

// 17.1, 17.4: rows of picks, as far as they go, and what is told then.
func TestPicks(t *testing.T) {
	both := []api.Move{op(0, 0), op(0, 1), op(1, 0), op(1, 1)}
	for _, k := range []struct {
		picks []int
		done  int
		moves []api.Move
		r0    [2]int
		end   bool
	}{
		{nil, 0, []api.Move{path(0, 0), path(1, 0)}, [2]int{}, false},
		{[]int{0}, 1, []api.Move{op(0, 0), op(0, 1), path(1, 0)}, [2]int{}, false},
		{[]int{1}, 1, []api.Move{path(0, 0), op(1, 0), op(1, 1)}, [2]int{}, false},
		{[]int{0, 2}, 2, both, [2]int{}, false},
		{[]int{1, 0}, 2, both, [2]int{}, false},
		{[]int{0, 0}, 2, []api.Move{op(0, 1), path(1, 0)}, [2]int{}, false},
		{[]int{0, 0, 0}, 3, []api.Move{path(1, 0)}, [2]int{}, false},
		{[]int{0, 0, 0, 0}, 4, []api.Move{op(1, 0), op(1, 1)}, [2]int{}, false},
		{[]int{0, 1, 0, 0, 0, 0}, 6, nil, [2]int{0, 1}, true},
		{[]int{0, 2, 0, 0, 0, 0}, 6, nil, [2]int{0, 1}, true},
		{[]int{0, 2, 1, 2, 0, 0}, 6, nil, [2]int{0, 0}, true},
		{[]int{0, 2, 0, 1, 0, 0}, 6, nil, [2]int{1, 1}, true},
		{[]int{0, 2, 2, 2, 0, 0}, 6, nil, [2]int{1, 0}, true},
		{[]int{0, 2, 0, 0, 0, 0, 0, 0}, 6, nil, [2]int{0, 1}, true},
		{[]int{0, 3, 0}, 1, []api.Move{op(0, 0), op(0, 1), path(1, 0)}, [2]int{}, false},
		{[]int{2, 0}, 0, []api.Move{path(0, 0), path(1, 0)}, [2]int{}, false},
		{[]int{-1, 0}, 0, []api.Move{path(0, 0), path(1, 0)}, [2]int{}, false},
		{[]int{0, 2, math.MinInt}, 2, both, [2]int{}, false},
		{[]int{0, 2, math.MaxInt}, 2, both, [2]int{}, false},
		{[]int{0, 2, 4}, 2, both, [2]int{}, false},
	} {
		m := flat.New(buffering())
		if n := mach.Play(m, k.picks...); n != k.done {
			t.Errorf("14.1: Play of %v = %d, want %d", k.picks, n, k.done)
		}
		if k.end {
			ends(t, "store buffering", m, locs{1, 1}, file{k.r0[0]}, file{k.r0[1]})
		} else {
			under(t, "store buffering", m, k.moves...)
		}
		stuck(t, m)
	}
}

// 17.4: threads are told rising; of each its paths, as flow.Paths has them, or
// the places that may be performed, with their indices.
func TestMoves(t *testing.T) {
	forked := code{load(0, x), ifZero(0, 3), put(y, 1), unless(0, 5), put(z, 1)}
	m := machine(t, test(forked, code{konst(1, 5), load(0, y), move(2, 1), load(3, z)}, code{ifZero(0, 1)}))
	first := []api.Move{path(0, 0), path(0, 1), path(0, 2), path(0, 3)}
	under(t, "at first", m, append(first, path(1, 0), path(2, 0))...)
	stuck(t, m)
	goes(t, m, path(1, 0))
	under(t, "the middle one has a path", m, append(first, at(1, 1, 1), at(1, 3, 3), path(2, 0))...)
	goes(t, m, path(2, 0))
	under(t, "the last one has a path", m, append(first, at(1, 1, 1), at(1, 3, 3))...)
	goes(t, m, at(1, 3, 3))
	under(t, "the middle one has performed one", m, append(first, at(1, 1, 1))...)
	stuck(t, m)
	// The paths are 0 1 2 3 4, 0 1 2 3, 0 1 3 4 and 0 1 3.
	for n, places := range [][]api.Move{{at(0, 2, 2), at(0, 4, 4)}, {at(0, 2, 2)}, {at(0, 4, 3)}, nil} {
		twin := m.Twin().(*flat.Machine)
		goes(t, twin, path(0, n))
		under(t, "a path", twin, at(0, 0, 0), at(1, 1, 1))
		goes(t, twin, at(0, 0, 0))
		// It reads 0: the first branch goes to 3, the second one on.
		if n != 2 {
			dies(t, "another path", twin)
			continue
		}
		under(t, "a path", twin, append(places, at(1, 1, 1))...)
		goes(t, twin, at(1, 1, 1))
		under(t, "a path", twin, places...)
		goes(t, twin, places...)
		ends(t, "a path", twin, locs{z: 1}, file{}, file{1: 5, 2: 5})
		stuck(t, twin)
	}
}

// 17.1, 17.4: threads with no memory operation, with no instruction, paths with
// none of their own: they choose a path all the same.
func TestNoOperations(t *testing.T) {
	for _, k := range []struct {
		what string
		test api.Test
		row  []api.Move
		mem  locs
		regs []file
	}{
		{"no instructions", test(nil), []api.Move{path(0, 0)}, locs{}, nil},
		{"no instructions of three threads", test(code{}, nil, nil), []api.Move{path(2, 0), path(0, 0), path(1, 0)}, locs{}, nil},
		{"what is held at first", from(test(nil, nil), locs{1, math.MinInt, math.MaxInt}, file{7: 1}, file{math.MinInt, math.MaxInt}),
			[]api.Move{path(1, 0), path(0, 0)}, locs{1, math.MinInt, math.MaxInt}, []file{{7: 1}, {math.MinInt, math.MaxInt}}},
		{"no memory operation", from(test(code{konst(0, 5), move(1, 0), fence(3, 3), aluImm(api.FnAdd, 3, 3, 1), isb()}), locs{7, 8, 9}, file{3: math.MaxInt}),
			[]api.Move{path(0, 0)}, locs{7, 8, 9}, []file{{0: 5, 1: 5, 3: math.MinInt}}},
		{"a path past the only one", test(code{ifZero(0, 2), put(x, 1), konst(1, 2)}), []api.Move{path(0, 1)}, locs{}, []file{{1: 2}}},
		{"a path to the end", test(code{ifZero(0, 2), put(x, 1)}), []api.Move{path(0, 1)}, locs{}, nil},
		{"one with, one without", test(code{put(x, 1)}, code{isb()}), []api.Move{path(0, 0), op(0, 0), path(1, 0)}, locs{1}, nil},
		{"one without, one with", test(nil, code{put(x, 1)}), []api.Move{path(1, 0), path(0, 0), op(1, 0)}, locs{1}, nil},
	} {
		m := machine(t, k.test)
		for _, move := range k.row {
			holds(t, k.what, m, state{})
			stuck(t, m)
			goes(t, m, move)
		}
		ends(t, k.what, m, k.mem, k.regs...)
		stuck(t, m)
	}
}

// 17.3, 17.4: what is performed behind a choice of another thread, or ahead of
// it, is the same: nothing waits until all paths are chosen.
func TestOneAheadOfTheOther(t *testing.T) {
	m := machine(t, test(code{put(x, 1), load(0, y)}, code{load(0, x), put(y, 2)}, code{put(z, 3)}))
	goes(t, m, path(0, 0), op(0, 0))
	under(t, "one has gone on", m, op(0, 1), path(1, 0), path(2, 0))
	goes(t, m, path(1, 0), op(1, 1), op(1, 0), op(0, 1))
	under(t, "the last one has no path", m, path(2, 0))
	goes(t, m, path(2, 0))
	under(t, "the last one has one", m, op(2, 0))
	goes(t, m, op(2, 0))
	ends(t, "all", m, locs{1, 2, 3}, file{2}, file{1})
}

// accesses is memory operations of all kinds and functions.
func accesses() []api.Ins {
	return []api.Ins{load(0, 0), store(1, 0), put(0, -0x0102030405060709), swap(0, 1, 0), add(0, 1, 0), swap(1, 1, 0), add(1, 1, 0), add(2, 2, 0), load(2, 0)}
}

// after is what one access does to what is held, byte by byte.
func after(i api.Ins, regs file, mem locs) (file, locs) {
	index := 0
	if i.Index >= 0 {
		index = regs[i.Index]
	}
	from, held := first(i, index), bytesOf(mem[i.Loc])
	var read [8]byte
	copy(read[:], held[from:from+i.Size])
	old, datum := valueOf(read), i.Imm
	if i.A >= 0 {
		datum = regs[i.A]
	}
	if i.Op == api.OpRmw && i.Fn == api.FnAdd {
		datum += old
	}
	if i.Op != api.OpLoad {
		b := bytesOf(datum)
		copy(held[from:], b[:i.Size])
		mem[i.Loc] = valueOf(held)
	}
	if i.Op != api.OpStore {
		regs[i.Dst] = old
	}
	return regs, mem
}

// 17.2: loads, stores and OpRmws of every size, Fn, location, offset and index:
// the bytes beside stay.
func TestAccesses(t *testing.T) {
	for _, i := range accesses() {
		for _, size := range sizes {
			for _, off := range offsets[size] {
				for loc := range api.MaxLocs {
					i := part(off, size, i)
					i.Loc = loc
					access(t, i, file{5: -1, 6: 6}, odd...)
					for _, index := range odd {
						access(t, by(2, i), file{5: -1, 2: index}, 0x0102030405060708, math.MinInt+1)
					}
				}
			}
		}
	}
}

// access does one access with many values, which must come to what after says.
func access(t *testing.T, i api.Ins, regs file, data ...int) {
	t.Helper()
	for _, datum := range data {
		regs[1] = datum
		for _, init := range []locs{bytewise, {-1, -1, -1}} {
			m := begun(t, from(test(code{i}), init, regs))
			under(t, "one access", m, op(0, 0))
			goes(t, m, op(0, 0))
			out, mem := after(i, regs, init)
			ends(t, "one access", m, mem, out)
			if t.Failed() {
				t.Fatalf("%+v with %v, %v", i, regs, init)
			}
		}
	}
}

// 17.2: what writes that overlap leave goes by the row, not by the threads; of
// what they do not touch Init stays.
func TestRow(t *testing.T) {
	x1 := from(test(code{part(0, 4, put(x, 0x11111111))}, code{part(2, 2, put(x, 0x2222))}, code{part(0, 8, load(0, x))}), locs{-1, 5, 6})
	a, b, c := op(0, 0), op(1, 0), op(2, 0)
	const init, first, second, late, early = -1, -0xEEEEEEEF, -0xDDDD0001, -0xDDDDEEEF, -0xEEEEEEEF
	for _, k := range []struct {
		row       []api.Move
		read, mem int
	}{
		{[]api.Move{c, a, b}, init, late}, {[]api.Move{c, b, a}, init, early},
		{[]api.Move{a, c, b}, first, late}, {[]api.Move{b, c, a}, second, early},
		{[]api.Move{a, b, c}, late, late}, {[]api.Move{b, a, c}, early, early},
	} {
		m := begun(t, x1)
		goes(t, m, k.row...)
		ends(t, "writes that overlap", m, locs{k.mem, 5, 6}, file{}, file{}, file{k.read})
	}
}

// 17.2: an OpRmw reads and writes at once, in any row.
func TestRmws(t *testing.T) {
	x1 := from(test(code{add(0, 1, x)}, code{swap(0, 1, x)}, code{part(0, 2, add(0, 1, x))}), locs{5}, file{1: 1}, file{1: 0xFFFF}, file{1: 1})
	a, b, c := op(0, 0), op(1, 0), op(2, 0)
	for _, k := range []struct {
		row  []api.Move
		reds [3]int
		mem  int
	}{
		{[]api.Move{a, b, c}, [3]int{5, 6, 0xFFFF}, 0}, {[]api.Move{a, c, b}, [3]int{5, 7, 6}, 0xFFFF},
		{[]api.Move{b, a, c}, [3]int{0xFFFF, 5, 0}, 0x10001}, {[]api.Move{b, c, a}, [3]int{0, 5, 0xFFFF}, 1},
		{[]api.Move{c, a, b}, [3]int{6, 7, 5}, 0xFFFF}, {[]api.Move{c, b, a}, [3]int{0xFFFF, 6, 5}, 0x10000},
	} {
		m := begun(t, x1)
		goes(t, m, k.row...)
		ends(t, "three OpRmws", m, locs{k.mem}, file{k.reds[0], 1}, file{k.reds[1], 0xFFFF}, file{k.reds[2], 1})
	}
	m := begun(t, from(test(code{swap(1, 1, x), add(1, 1, x), store(1, y)}), locs{5}, file{1: 7}))
	goes(t, m, op(0, 0), op(0, 1), op(0, 2))
	ends(t, "A is Dst", m, locs{12, 7}, file{1: 7})
}
