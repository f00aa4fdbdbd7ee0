package tso_test

import (
	"math"
	"testing"

	"belated/api"
	"belated/mach"
	"belated/tso"
)

// calls is all that the machine tells: by itself, and by promotion.
type calls interface {
	mach.Machine
	Mem(loc int) int
	Buffered(thread int) int
	Threads() int
	Ready(thread int) (api.Ins, bool)
	Reg(thread, reg int) int
	At(thread int) int
	Spot(thread int) (span api.Span, datum int, ok bool)
	Pass(thread, old int) bool
	Copy() *mach.Core
	Mark() string
}

var _ calls = (*tso.Machine)(nil)

// buffering is the test of store buffering.
func buffering() api.Test {
	return test(code{put(x, 1), load(0, y)}, code{put(y, 1), load(0, x)})
}

// The chapter's table.
func TestExamples(t *testing.T) {
	m := tso.New(buffering())
	if !m.Do(0) {
		t.Error("16.2: Do(0) is false")
	}
	moves(t, "behind Do(0)", m, at(0, 1), drain(0), at(1, 0))
	goes(t, m, at(1, 0), at(0, 1), at(1, 1), drain(0), drain(1))
	holds(t, "both stores, both loads, both drains", m, state{at: [3]int{2, 2}, Outcome: api.Outcome{Mem: locs{1, 1}}})
	m = tso.New(test(code{put(x, 1), load(0, x)}))
	if !m.Do(0) || !m.Do(0) || m.Mem(0) != 0 || m.Reg(0, 0) != 1 {
		t.Errorf("16.2: x = 1; r0 = x: Mem(0) = %d, Reg(0, 0) = %d", m.Mem(0), m.Reg(0, 0))
	}
}

// 16.1, 16.2, 16.3: each row of picks, as far as it goes, and what is held then.
func TestPicks(t *testing.T) {
	for _, k := range []struct {
		picks        []int
		done         int
		at, buffered [3]int
		r0, r1       int
		mem          locs
		moves        []api.Move
	}{
		{nil, 0, [3]int{0, 0}, [3]int{}, 0, 0, locs{}, []api.Move{at(0, 0), at(1, 0)}},
		{[]int{0}, 1, [3]int{1, 0}, [3]int{1}, 0, 0, locs{}, []api.Move{at(0, 1), drain(0), at(1, 0)}},
		{[]int{1}, 1, [3]int{0, 1}, [3]int{0, 1}, 0, 0, locs{}, []api.Move{at(0, 0), at(1, 1), drain(1)}},
		{[]int{0, 0}, 2, [3]int{2, 0}, [3]int{1}, 0, 0, locs{}, []api.Move{drain(0), at(1, 0)}},
		{[]int{0, 1}, 2, [3]int{1, 0}, [3]int{}, 0, 0, locs{1}, []api.Move{at(0, 1), at(1, 0)}},
		{[]int{0, 2}, 2, [3]int{1, 1}, [3]int{1, 1}, 0, 0, locs{}, []api.Move{at(0, 1), drain(0), at(1, 1), drain(1)}},
		{[]int{0, 2, 1}, 3, [3]int{1, 1}, [3]int{0, 1}, 0, 0, locs{1}, []api.Move{at(0, 1), at(1, 1), drain(1)}},
		{[]int{0, 2, 3}, 3, [3]int{1, 1}, [3]int{1, 0}, 0, 0, locs{y: 1}, []api.Move{at(0, 1), drain(0), at(1, 1)}},
		{[]int{0, 2, 2}, 3, [3]int{1, 2}, [3]int{1, 1}, 0, 0, locs{}, []api.Move{at(0, 1), drain(0), drain(1)}},
		{[]int{0, 2, 2, 0}, 4, [3]int{2, 2}, [3]int{1, 1}, 0, 0, locs{}, []api.Move{drain(0), drain(1)}},
		{[]int{0, 2, 2, 0, 1}, 5, [3]int{2, 2}, [3]int{1, 0}, 0, 0, locs{y: 1}, []api.Move{drain(0)}},
		{[]int{0, 2, 2, 0, 1, 0}, 6, [3]int{2, 2}, [3]int{}, 0, 0, locs{1, 1}, nil},
		{[]int{0, 2, 3, 0, 1, 0}, 6, [3]int{2, 2}, [3]int{}, 1, 0, locs{1, 1}, nil},
		{[]int{0, 1, 0, 0, 0, 0}, 6, [3]int{2, 2}, [3]int{}, 0, 1, locs{1, 1}, nil},
		{[]int{0, 2, 1, 2, 0, 0}, 6, [3]int{2, 2}, [3]int{}, 1, 1, locs{1, 1}, nil},
		{[]int{0, 2, 2, 0, 0, 0, 0, 0}, 6, [3]int{2, 2}, [3]int{}, 0, 0, locs{1, 1}, nil},
		{[]int{0, 3, 0}, 1, [3]int{1, 0}, [3]int{1}, 0, 0, locs{}, []api.Move{at(0, 1), drain(0), at(1, 0)}},
		{[]int{0, 0, 2}, 2, [3]int{2, 0}, [3]int{1}, 0, 0, locs{}, []api.Move{drain(0), at(1, 0)}},
		{[]int{-1, 0}, 0, [3]int{0, 0}, [3]int{}, 0, 0, locs{}, []api.Move{at(0, 0), at(1, 0)}},
		{[]int{0, math.MinInt}, 1, [3]int{1, 0}, [3]int{1}, 0, 0, locs{}, []api.Move{at(0, 1), drain(0), at(1, 0)}},
		{[]int{0, math.MaxInt}, 1, [3]int{1, 0}, [3]int{1}, 0, 0, locs{}, []api.Move{at(0, 1), drain(0), at(1, 0)}},
	} {
		m := tso.New(buffering())
		if n := mach.Play(m, k.picks...); n != k.done {
			t.Errorf("14.1: Play of %v = %d, want %d", k.picks, n, k.done)
		}
		want := state{at: k.at, buffered: k.buffered, Outcome: api.Outcome{Mem: k.mem}}
		want.Regs[0][0], want.Regs[1][0] = k.r0, k.r1
		holds(t, "store buffering", m, want)
		moves(t, "store buffering", m, k.moves...)
		stuck(t, m)
	}
}

// 16.1: threads are told rising, of each its instruction ahead of its drain.
func TestMoves(t *testing.T) {
	m := tso.New(test(code{put(x, 1), isb()}, code{konst(0, 1), put(x, 2), isb()}, code{move(0, 1), konst(2, 3), put(x, 3), isb()}))
	moves(t, "three threads", m, at(0, 0), at(1, 1), at(2, 2))
	goes(t, m, at(1, 1))
	moves(t, "the middle one wrote", m, at(0, 0), at(1, 2), drain(1), at(2, 2))
	goes(t, m, at(2, 2))
	moves(t, "the last two wrote", m, at(0, 0), at(1, 2), drain(1), at(2, 3), drain(2))
	goes(t, m, at(0, 0))
	moves(t, "all wrote", m, at(0, 1), drain(0), at(1, 2), drain(1), at(2, 3), drain(2))
	stuck(t, m)
	goes(t, m, at(0, 1), at(2, 3))
	moves(t, "two are at their end", m, drain(0), at(1, 2), drain(1), drain(2))
	goes(t, m, drain(1))
	moves(t, "the middle one is drained", m, drain(0), at(1, 2), drain(2))
	goes(t, m, at(1, 2), drain(0))
	moves(t, "one write is left", m, drain(2))
	stuck(t, m)
	goes(t, m, drain(2))
	moves(t, "none is left", m)
	stuck(t, m)
	m = tso.New(test(nil, code{put(x, 1)}, nil))
	goes(t, m, at(1, 0))
	moves(t, "the middle one alone has a code", m, drain(1))
	goes(t, m, drain(1))
	moves(t, "the middle one alone has a code", m)
	m = tso.New(test(code{put(x, 1)}, code{konst(0, 1)}, code{load(0, x)}))
	moves(t, "the middle one ends at once", m, at(0, 0), at(2, 0))
}

// 16.3: machines that are done at first.
func TestDoneAtFirst(t *testing.T) {
	for _, k := range []struct {
		what string
		test api.Test
		want state
	}{
		{"no instructions", test(nil), state{}},
		{"no instructions of three threads", test(nil, code{}, nil), state{}},
		{"what is held at first", from(test(nil, nil), locs{1, math.MinInt, math.MaxInt}, file{7: 1}, file{math.MinInt, math.MaxInt}),
			state{Outcome: api.Outcome{Mem: locs{1, math.MinInt, math.MaxInt}, Regs: [3]file{{7: 1}, {math.MinInt, math.MaxInt}}}}},
		{"all is gone through at once", from(test(code{konst(0, 5), ifZero(1, 3), konst(0, 6), move(2, 0)}, code{aluImm(api.FnAdd, 3, 3, 1)}), locs{7, 8, 9}, file{}, file{3: math.MaxInt}),
			state{at: [3]int{4, 1}, Outcome: api.Outcome{Mem: locs{7, 8, 9}, Regs: [3]file{{0: 5, 2: 5}, {3: math.MinInt}}}}},
		{"a branch to the end", test(code{ifZero(0, 3), load(1, x), put(x, 1)}), state{at: [3]int{3}}},
	} {
		m := tso.New(k.test)
		moves(t, k.what, m)
		holds(t, k.what, m, k.want)
		stuck(t, m)
	}
}

// accesses is memory operations of all kinds and functions.
func accesses() []api.Ins {
	return []api.Ins{load(0, 0), store(1, 0), put(0, -0x0102030405060709), swap(0, 1, 0), add(0, 1, 0), swap(1, 1, 0), add(1, 1, 0), add(2, 2, 0), load(2, 0)}
}

// after is what one access does to what is held, byte by byte.
func after(i api.Ins, regs file, mem locs) (file, locs) {
	index := 0
	if i.Index >= 0 {
		index = regs[i.Index]
	}
	from, held := first(i, index), bytesOf(mem[i.Loc])
	var read [8]byte
	copy(read[:], held[from:from+i.Size])
	old, datum := valueOf(read), i.Imm
	if i.A >= 0 {
		datum = regs[i.A]
	}
	if i.Op == api.OpRmw && i.Fn == api.FnAdd {
		datum += old
	}
	if i.Op != api.OpLoad {
		b := bytesOf(datum)
		copy(held[from:], b[:i.Size])
		mem[i.Loc] = valueOf(held)
	}
	if i.Op != api.OpStore {
		regs[i.Dst] = old
	}
	return regs, mem
}

// 16.2: loads, stores and OpRmws of every size, Fn, location, offset and index:
// the bytes beside stay.
func TestAccesses(t *testing.T) {
	for _, i := range accesses() {
		for _, size := range sizes {
			for _, off := range offsets[size] {
				for loc := range api.MaxLocs {
					i := part(off, size, i)
					i.Loc = loc
					access(t, i, file{5: -1, 6: 6}, odd...)
					for _, index := range odd {
						access(t, by(2, i), file{5: -1, 2: index}, 0x0102030405060708, math.MinInt+1)
					}
				}
			}
		}
	}
}

// access does one access with many values, which must come to what after says;
// a store is in memory behind its drain alone.
func access(t *testing.T, i api.Ins, regs file, data ...int) {
	t.Helper()
	for _, datum := range data {
		regs[1] = datum
		for _, init := range []locs{bytewise, {-1, -1, -1}} {
			m := tso.New(from(test(code{i}), init, regs))
			moves(t, "one access", m, at(0, 0))
			want := state{Outcome: api.Outcome{Regs: [3]file{regs}, Mem: init}}
			holds(t, "one access, at first", m, want)
			goes(t, m, at(0, 0))
			want.at[0] = 1
			if i.Op == api.OpStore {
				want.buffered[0] = 1
				holds(t, "one access that waits", m, want)
				moves(t, "one access that waits", m, drain(0))
				goes(t, m, drain(0))
				want.buffered[0] = 0
			}
			moves(t, "one access", m)
			want.Regs[0], want.Mem = after(i, regs, init)
			holds(t, "one access", m, want)
			if t.Failed() {
				t.Fatalf("%+v with %v, %v", i, regs, init)
			}
		}
	}
}

// 16.2: numbers written out, of what parts of locations hold.
func TestParts(t *testing.T) {
	for _, k := range []struct {
		what string
		i    api.Ins
		mem  int
	}{
		{"a byte is written", part(7, 1, store(1, x)), 0x7F07060584030201},
		{"the lowest byte is written", part(0, 1, store(1, x)), 0x080706058403027F},
		{"two bytes are written", part(4, 2, store(1, x)), 0x0807FF7F84030201},
		{"four bytes are written", part(0, 4, store(1, x)), 0x08070605FFFFFF7F},
		{"eight bytes are written", store(1, x), -129},
		{"a number is written", part(2, 2, put(x, 0x123456)), 0x0807060534560201},
	} {
		const was = 0x0807060584030201
		m := tso.New(from(test(code{k.i, load(0, x)}, code{load(0, x)}), locs{was, -1, 1}, file{5, -129}))
		goes(t, m, at(0, 0), at(0, 1), at(1, 0))
		want := state{at: [3]int{2, 1}, buffered: [3]int{1}, Outcome: api.Outcome{Regs: [3]file{{k.mem, -129}, {was}}, Mem: locs{was, -1, 1}}}
		holds(t, k.what, m, want)
		goes(t, m, drain(0))
		want.buffered[0], want.Mem[x] = 0, k.mem
		holds(t, k.what, m, want)
	}
}

// 16.2: a load takes each byte from the last write of its buffer that touches
// it, from memory, if none does: of every two writes and every load.
func TestForwarded(t *testing.T) {
	const a, b = 0x2827262524232221, 0x3837363534333231
	for _, s1 := range sizes {
		for _, o1 := range offsets[s1] {
			for _, s2 := range sizes {
				for _, o2 := range offsets[s2] {
					row := code{part(o1, s1, put(y, a)), part(o2, s2, put(y, b))}
					held := bytesOf(bytewise[y])
					ba, bb := bytesOf(a), bytesOf(b)
					copy(held[o1:], ba[:s1])
					copy(held[o2:], bb[:s2])
					forwarded(t, row, held)
				}
			}
		}
	}
}

// forwarded is whether all loads of y behind a row of stores take these bytes,
// with all of them in the buffer, and as one by one is drained.
func forwarded(t *testing.T, row code, held [8]byte) {
	t.Helper()
	for _, size := range sizes {
		for _, off := range offsets[size] {
			var want [8]byte
			copy(want[:], held[off:off+size])
			for drained := 0; drained <= len(row); drained++ {
				m := tso.New(from(test(append(row[:len(row):len(row)], part(off, size, load(7, y)))), bytewise))
				for n := range row {
					goes(t, m, at(0, n))
				}
				for range drained {
					goes(t, m, drain(0))
				}
				mem := m.Mem(y)
				goes(t, m, at(0, len(row)))
				if m.Reg(0, 7) != valueOf(want) || m.Mem(y) != mem || m.Buffered(0) != len(row)-drained {
					t.Fatalf("16.2: behind %+v, %d of them drained, %d bytes at %d are read as %x, want %x", row, drained, size, off, m.Reg(0, 7), valueOf(want))
				}
			}
		}
	}
}

// 16.2: a load takes some bytes from one write, some from another and some from
// memory; what is drained meanwhile is there for others, the rest is not.
func TestPieces(t *testing.T) {
	x1 := from(test(
		code{part(0, 4, put(y, -1)), part(1, 1, put(y, 0x22)), put(z, 5), part(6, 2, put(y, 0x7766)), load(0, y)},
		code{load(0, y)}), bytewise)
	for _, k := range []struct {
		what   string
		drains int
		mem    locs
	}{
		{"none is drained", 0, bytewise},
		{"one is", 1, locs{bytewise[x], 0x18171615FFFFFFFF, bytewise[z]}},
		{"two are", 2, locs{bytewise[x], 0x18171615FFFF22FF, bytewise[z]}},
		{"three are", 3, locs{bytewise[x], 0x18171615FFFF22FF, 5}},
		{"all are", 4, locs{bytewise[x], 0x77661615FFFF22FF, 5}},
	} {
		m := tso.New(x1)
		goes(t, m, at(0, 0), at(0, 1), at(0, 2), at(0, 3))
		for range k.drains {
			goes(t, m, drain(0))
		}
		goes(t, m, at(0, 4), at(1, 0))
		want := state{at: [3]int{5, 1}, buffered: [3]int{4 - k.drains}, Outcome: api.Outcome{Mem: k.mem}}
		want.Regs[0][0], want.Regs[1][0] = 0x77661615FFFF22FF, k.mem[y]
		holds(t, k.what, m, want)
		if k.drains < 4 {
			moves(t, k.what, m, drain(0))
		}
	}
}

// 16.2: what another one writes lies over what was in memory, not over the own
// buffer; and what is drained last lies over all.
func TestBetweenThreads(t *testing.T) {
	x1 := test(code{part(0, 4, put(x, 0x11111111)), load(0, x), load(1, x)}, code{put(x, 0x2222222222222222)})
	m := tso.New(x1)
	goes(t, m, at(0, 0), at(1, 0), at(0, 1), drain(1), at(0, 2))
	want := state{at: [3]int{3, 1}, buffered: [3]int{1}, Outcome: api.Outcome{Mem: locs{0x2222222222222222}}}
	want.Regs[0] = file{0x11111111, 0x2222222211111111}
	holds(t, "another's write is drained", m, want)
	goes(t, m, drain(0))
	want.buffered[0], want.Mem[x] = 0, 0x2222222211111111
	holds(t, "both are", m, want)
	m = tso.New(x1)
	goes(t, m, at(0, 0), at(1, 0), drain(0), at(0, 1), drain(1), at(0, 2))
	want.Regs[0], want.Mem[x] = file{0x11111111, 0x2222222222222222}, 0x2222222222222222
	holds(t, "the other one is drained last", m, want)
}

// 16.2: buffers are drained in order, each by itself.
func TestInOrder(t *testing.T) {
	m := tso.New(test(code{put(x, 1), put(y, 2), put(x, 3)}, code{put(x, 4), put(x, 5)}))
	goes(t, m, at(0, 0), at(0, 1), at(0, 2), at(1, 0), at(1, 1))
	for n, k := range []struct {
		thread int
		mem    locs
	}{{0, locs{1, 0}}, {1, locs{4, 0}}, {0, locs{4, 2}}, {0, locs{3, 2}}, {1, locs{5, 2}}} {
		goes(t, m, drain(k.thread))
		want := state{at: [3]int{3, 2}, buffered: [][3]int{{2, 2}, {2, 1}, {1, 1}, {0, 1}, {0, 0}}[n], Outcome: api.Outcome{Mem: k.mem}}
		holds(t, "one by one", m, want)
	}
	moves(t, "all are drained", m)
}

// 16.1: an OpRmw and each OpFence wait for the own buffer, not for another's;
// loads, stores and an OpIsb wait for none.
func TestWaits(t *testing.T) {
	wait := []api.Ins{swap(0, 1, y), add(0, 1, x), part(3, 1, add(0, 1, x)), part(4, 4, swap(0, 1, z)), marked(true, false, true, swap(0, 1, x))}
	for pred := 1; pred <= 3; pred++ {
		for succ := 1; succ <= 3; succ++ {
			wait = append(wait, fence(pred, succ))
		}
	}
	for _, i := range wait {
		m := tso.New(test(code{part(0, 1, put(x, 1)), part(4, 4, put(z, 2)), i}, code{put(y, 1)}))
		goes(t, m, at(1, 0), at(0, 0), at(0, 1))
		moves(t, "two writes wait", m, drain(0), drain(1))
		goes(t, m, drain(0))
		moves(t, "one waits", m, drain(0), drain(1))
		goes(t, m, drain(0))
		moves(t, "another's waits", m, at(0, 2), drain(1))
		goes(t, m, at(0, 2))
		moves(t, "another's still waits", m, drain(1))
		goes(t, m, drain(1))
		moves(t, "none waits", m)
		m = tso.New(test(code{i}, code{put(y, 1)}))
		goes(t, m, at(1, 0))
		moves(t, "nothing was written here", m, at(0, 0), drain(1))
	}
	for _, i := range []api.Ins{load(0, y), store(1, y), part(1, 1, put(x, 1)), isb(), marked(true, false, false, load(0, x)), marked(false, true, false, load(0, x)), marked(false, false, true, put(x, 1))} {
		m := tso.New(test(code{put(x, 1), i}))
		goes(t, m, at(0, 0))
		moves(t, "what waits for nothing", m, at(0, 1), drain(0))
		goes(t, m, at(0, 1))
		moves(t, "what waits for nothing", m, drain(0))
	}
}

// 16.2: an OpRmw reads memory and writes it, at once and as one, with what its A
// held ahead; what others have in their buffers it does not see.
func TestAtOnce(t *testing.T) {
	x1 := from(test(code{add(0, 1, x), add(0, 1, x)}, code{swap(1, 1, x)}, code{put(x, 1000)}), locs{5}, file{1: 10}, file{1: 100})
	for _, k := range []struct {
		row    []api.Move
		r0, r1 int
		mem    int
	}{
		{[]api.Move{at(2, 0), at(0, 0), at(0, 1), at(1, 0)}, 15, 25, 100},
		{[]api.Move{at(2, 0), at(0, 0), at(1, 0), at(0, 1)}, 100, 15, 110},
		{[]api.Move{at(2, 0), at(1, 0), at(0, 0), at(0, 1)}, 110, 5, 120},
	} {
		m := tso.New(x1)
		goes(t, m, k.row...)
		want := state{at: [3]int{2, 1, 1}, buffered: [3]int{2: 1}, Outcome: api.Outcome{Mem: locs{k.mem}}}
		want.Regs[0], want.Regs[1] = file{k.r0, 10}, file{1: k.r1}
		holds(t, "sums and a swap", m, want)
		goes(t, m, drain(2))
		want.buffered[2], want.Mem[x] = 0, 1000
		holds(t, "a store is drained behind them", m, want)
	}
	m := tso.New(from(test(code{add(3, 3, z), swap(3, 3, z), by(3, part(0, 1, swap(3, 3, z)))}), locs{z: 8}, file{3: -3}))
	goes(t, m, at(0, 0))
	holds(t, "to its own A", m, state{at: [3]int{1}, Outcome: api.Outcome{Mem: locs{z: 5}, Regs: [3]file{{3: 8}}}})
	goes(t, m, at(0, 1))
	holds(t, "to its own A", m, state{at: [3]int{2}, Outcome: api.Outcome{Mem: locs{z: 8}, Regs: [3]file{{3: 5}}}})
	goes(t, m, at(0, 2))
	holds(t, "to its own A and Index", m, state{at: [3]int{3}, Outcome: api.Outcome{Mem: locs{z: 8 + 5<<40}}})
}

// 16.2: a fence and an ISB are passed, and nothing else comes of them.
func TestPassed(t *testing.T) {
	row := code{isb()}
	for pred := 1; pred <= 3; pred++ {
		for succ := 1; succ <= 3; succ++ {
			row = append(row, fence(pred, succ))
		}
	}
	want := state{Outcome: api.Outcome{Mem: bytewise, Regs: [3]file{{1, 2, 3, 4, 5, 6, 7, -8}, {math.MinInt, 7: math.MaxInt}}}}
	for _, i := range row {
		m := tso.New(from(test(code{i, i, i}, code{i}), bytewise, want.Regs[:]...))
		for n := range 3 {
			want.at = [3]int{n, 0}
			holds(t, "ahead of a fence", m, want)
			moves(t, "ahead of a fence", m, at(0, n), at(1, 0))
			goes(t, m, at(0, n))
		}
		goes(t, m, at(1, 0))
		want.at = [3]int{3, 1}
		holds(t, "behind fences", m, want)
		moves(t, "behind fences", m)
	}
	m := tso.New(test(code{put(x, 1), isb(), load(0, x)}))
	goes(t, m, at(0, 0), at(0, 1))
	holds(t, "an ISB leaves the buffer", m, state{at: [3]int{2}, buffered: [3]int{1}})
}

// 16.2: behind a read a thread goes on at once, along the branch that it asks
// for, by what its own buffer holds too.
func TestBranches(t *testing.T) {
	x1 := test(code{load(0, x), ifZero(0, 4), aluImm(api.FnAdd, 1, 0, 1), store(1, y), load(2, y)}, code{put(x, 7)})
	m := tso.New(x1)
	goes(t, m, at(1, 0), at(0, 0))
	moves(t, "0 was read", m, at(0, 4), drain(1))
	goes(t, m, at(0, 4), drain(1))
	holds(t, "0 was read", m, state{at: [3]int{5, 1}, Outcome: api.Outcome{Mem: locs{7}}})
	m = tso.New(x1)
	goes(t, m, at(1, 0), drain(1), at(0, 0))
	moves(t, "7 was read", m, at(0, 3))
	goes(t, m, at(0, 3), at(0, 4))
	want := state{at: [3]int{5, 1}, buffered: [3]int{1}, Outcome: api.Outcome{Mem: locs{7}, Regs: [3]file{{7, 8, 8}}}}
	holds(t, "8 waits", m, want)
	goes(t, m, drain(0))
	want.buffered[0], want.Mem[y] = 0, 8
	holds(t, "8 was written", m, want)
	m = tso.New(test(code{put(x, 1), load(0, x), unless(0, 5), put(y, 1), put(z, 1)}))
	goes(t, m, at(0, 0), at(0, 1))
	moves(t, "to the end", m, drain(0))
}

// 16.2: where an access lies hangs on what was read out of the buffer.
func TestAddresses(t *testing.T) {
	x1 := from(test(code{part(0, 1, store(3, x)), part(0, 1, load(0, x)), by(0, part(0, 1, put(y, -1))), by(0, part(1, 1, load(1, z))), by(0, part(0, 2, load(2, y)))}),
		locs{1, 0, bytewise[x]}, file{3: 3})
	row := []api.Move{at(0, 0), at(0, 1), at(0, 2), at(0, 3), at(0, 4)}
	m := tso.New(x1)
	goes(t, m, row...)
	want := state{at: [3]int{5}, buffered: [3]int{2}, Outcome: api.Outcome{Mem: x1.Init, Regs: [3]file{{3, 5, 0xFF00, 3}}}}
	holds(t, "by 3", m, want)
	goes(t, m, drain(0), drain(0))
	want.buffered, want.Mem = [3]int{}, locs{3, 0xFF000000, bytewise[x]}
	holds(t, "by 3", m, want)
	x1.Regs[0][3] = -1
	m = tso.New(x1)
	goes(t, m, row...)
	goes(t, m, drain(0), drain(0))
	holds(t, "by 255", m, state{at: [3]int{5}, Outcome: api.Outcome{Mem: locs{255, -1 << 56, bytewise[x]}, Regs: [3]file{{255, 1, 0xFF00, -1}}}})
}

// 16.2: what a store writes is what its register held as it was done.
func TestHeldThen(t *testing.T) {
	m := tso.New(from(test(code{store(0, x), konst(0, 9), by(1, part(0, 1, store(0, y))), konst(1, 5), store(0, z), konst(0, 4)}), locs{}, file{8, 2}))
	goes(t, m, at(0, 0), at(0, 2), at(0, 4), drain(0), drain(0), drain(0))
	holds(t, "registers that are turned", m, state{at: [3]int{6}, Outcome: api.Outcome{Mem: locs{8, 9 << 16, 9}, Regs: [3]file{{4, 5}}}})
}

// 16.2: values at both ends of an int go through a buffer as they are.
func TestBothEnds(t *testing.T) {
	for _, v := range odd {
		m := tso.New(from(test(code{store(1, x), load(0, x), put(y, v)}, code{load(0, x)}), locs{0x5555, v}, file{1: v}))
		goes(t, m, at(0, 0), at(0, 1), drain(0), at(1, 0), at(0, 2), drain(0))
		holds(t, "a value", m, state{at: [3]int{3, 1}, Outcome: api.Outcome{Mem: locs{v, v}, Regs: [3]file{{v, v}, {v}}}})
	}
}

// 16.3: Mem of a location, whatever waits; 0 of none.
func TestMem(t *testing.T) {
	m := tso.New(from(test(code{put(y, 4)}), locs{math.MinInt, -1, math.MaxInt}))
	for n := range 3 {
		want := map[int]int{x: math.MinInt, y: []int{-1, -1, 4}[n], z: math.MaxInt}
		for _, loc := range append([]int{-3, 5, 6, 1 << 33}, odd...) {
			if m.Mem(loc) != want[loc] {
				t.Errorf("16.3: Mem(%d) = %d, want %d", loc, m.Mem(loc), want[loc])
			}
		}
		m.Do(0)
	}
}

// 16.3: Buffered of a thread; 0 of none.
func TestBuffered(t *testing.T) {
	m := tso.New(test(code{put(x, 1), put(x, 1), put(x, 1), put(y, 1)}, code{part(1, 1, put(x, 1)), put(z, 1)}))
	want := map[int]int{}
	check := func() {
		t.Helper()
		for _, thread := range append([]int{-3, 5, 6, 1 << 33}, odd...) {
			if m.Buffered(thread) != want[thread] {
				t.Errorf("16.3: Buffered(%d) = %d, want %d", thread, m.Buffered(thread), want[thread])
			}
		}
	}
	check()
	for _, move := range []api.Move{at(0, 0), at(1, 0), at(0, 1), at(0, 2), at(0, 3), drain(0), at(1, 1), drain(1), drain(0), drain(0), drain(1), drain(0)} {
		goes(t, m, move)
		if move.Kind == api.MoveDrain {
			want[move.Thread]--
		} else {
			want[move.Thread]++
		}
		check()
	}
	moves(t, "all buffers are empty", m)
}

// R7: by promotion it tells what its Core does, of each state.
func TestPromoted(t *testing.T) {
	x1 := from(test(code{konst(1, 9), part(2, 2, store(1, y)), load(2, y), isb()}, code{load(0, y)}), locs{}, file{}, file{3: 3})
	m, c := tso.New(x1), mach.NewCore(x1)
	for _, old := range []int{0, 9 << 16, 0} {
		for thread := -1; thread < 4; thread++ {
			span, datum, spot := m.Spot(thread)
			span2, datum2, spot2 := c.Spot(thread)
			i, ready := m.Ready(thread)
			i2, ready2 := c.Ready(thread)
			if span != span2 || datum != datum2 || spot != spot2 || i != i2 || ready != ready2 || m.At(thread) != c.At(thread) {
				t.Errorf("R7: thread %d: %v %d %v %v %v %d", thread, span, datum, spot, i, ready, m.At(thread))
			}
			for _, reg := range odd {
				if m.Reg(thread, reg) != c.Reg(thread, reg) {
					t.Errorf("R7: Reg(%d, %d) = %d, want %d", thread, reg, m.Reg(thread, reg), c.Reg(thread, reg))
				}
			}
		}
		if m.Threads() != c.Threads() || m.Mark() != c.Mark() || m.Copy().Mark() != c.Mark() || m.Core.Mark() != c.Mark() {
			t.Errorf("R7: %d threads, Mark %q, want %q", m.Threads(), m.Mark(), c.Mark())
		}
		m.Do(0)
		c.Pass(0, old)
	}
}
