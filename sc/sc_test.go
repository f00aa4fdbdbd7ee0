package sc_test

import (
	"math"
	"testing"

	"belated/api"
	"belated/mach"
	"belated/sc"
)

// calls is all that the machine tells: by itself, and by promotion.
type calls interface {
	mach.Machine
	Mem(loc int) int
	Threads() int
	Ready(thread int) (api.Ins, bool)
	Reg(thread, reg int) int
	At(thread int) int
	Spot(thread int) (span api.Span, datum int, ok bool)
	Pass(thread, old int) bool
	Copy() *mach.Core
	Mark() string
}

var _ calls = (*sc.Machine)(nil)

// buffering is the test of store buffering.
func buffering() api.Test {
	return test(code{put(x, 1), load(0, y)}, code{put(y, 1), load(0, x)})
}

// The chapter's table.
func TestExamples(t *testing.T) {
	m := sc.New(buffering())
	moves(t, "at first", m, at(0, 0), at(1, 0))
	plays(t, m, 0)
	moves(t, "behind Do(0)", m, at(0, 1), at(1, 0))
	m = sc.New(buffering())
	if n := mach.Play(m, 0, 0, 0, 0); n != 4 || !m.Done() {
		t.Errorf("Play 0 0 0 0 = %d, Done %v", n, m.Done())
	}
	if o := m.Outcome(); o.Regs[0][0] != 0 || o.Regs[1][0] != 1 {
		t.Errorf("Play 0 0 0 0 comes to %v", o)
	}
}

// 15.1: each row of picks, as far as it goes, and what is held then.
func TestPicks(t *testing.T) {
	for _, k := range []struct {
		picks  []int
		done   int
		at     [3]int
		r0, r1 int
		mem    locs
		moves  []api.Move
	}{
		{nil, 0, [3]int{0, 0}, 0, 0, locs{}, []api.Move{at(0, 0), at(1, 0)}},
		{[]int{0}, 1, [3]int{1, 0}, 0, 0, locs{1}, []api.Move{at(0, 1), at(1, 0)}},
		{[]int{1}, 1, [3]int{0, 1}, 0, 0, locs{y: 1}, []api.Move{at(0, 0), at(1, 1)}},
		{[]int{0, 0}, 2, [3]int{2, 0}, 0, 0, locs{1}, []api.Move{at(1, 0)}},
		{[]int{1, 1}, 2, [3]int{0, 2}, 0, 0, locs{y: 1}, []api.Move{at(0, 0)}},
		{[]int{0, 1}, 2, [3]int{1, 1}, 0, 0, locs{1, 1}, []api.Move{at(0, 1), at(1, 1)}},
		{[]int{0, 1, 1}, 3, [3]int{1, 2}, 0, 1, locs{1, 1}, []api.Move{at(0, 1)}},
		{[]int{0, 0, 0}, 3, [3]int{2, 1}, 0, 0, locs{1, 1}, []api.Move{at(1, 1)}},
		{[]int{0, 0, 0, 0}, 4, [3]int{2, 2}, 0, 1, locs{1, 1}, nil},
		{[]int{0, 1, 0, 0}, 4, [3]int{2, 2}, 1, 1, locs{1, 1}, nil},
		{[]int{1, 0, 1, 0}, 4, [3]int{2, 2}, 1, 1, locs{1, 1}, nil},
		{[]int{1, 1, 0, 0}, 4, [3]int{2, 2}, 1, 0, locs{1, 1}, nil},
		{[]int{0, 0, 0, 0, 0, 0}, 4, [3]int{2, 2}, 0, 1, locs{1, 1}, nil},
		{[]int{0, 0, 1, 0}, 2, [3]int{2, 0}, 0, 0, locs{1}, []api.Move{at(1, 0)}},
		{[]int{1, 2, 0}, 1, [3]int{0, 1}, 0, 0, locs{y: 1}, []api.Move{at(0, 0), at(1, 1)}},
		{[]int{-1, 0}, 0, [3]int{0, 0}, 0, 0, locs{}, []api.Move{at(0, 0), at(1, 0)}},
		{[]int{0, math.MinInt}, 1, [3]int{1, 0}, 0, 0, locs{1}, []api.Move{at(0, 1), at(1, 0)}},
		{[]int{0, math.MaxInt}, 1, [3]int{1, 0}, 0, 0, locs{1}, []api.Move{at(0, 1), at(1, 0)}},
	} {
		m := sc.New(buffering())
		if n := mach.Play(m, k.picks...); n != k.done {
			t.Errorf("14.1: Play of %v = %d, want %d", k.picks, n, k.done)
		}
		want := state{at: k.at, Outcome: api.Outcome{Mem: k.mem}}
		want.Regs[0][0], want.Regs[1][0] = k.r0, k.r1
		holds(t, "store buffering", m, want)
		moves(t, "store buffering", m, k.moves...)
		stuck(t, m)
	}
}

// 15.1: threads are told rising, and those at their end not at all.
func TestMoves(t *testing.T) {
	m := sc.New(test(code{isb()}, code{konst(0, 1), isb(), isb()}, code{move(0, 1), konst(2, 3), fence(1, 2)}))
	moves(t, "three threads", m, at(0, 0), at(1, 1), at(2, 2))
	plays(t, m, 1)
	moves(t, "the middle one went on", m, at(0, 0), at(1, 2), at(2, 2))
	plays(t, m, 0)
	moves(t, "the first one is at its end", m, at(1, 2), at(2, 2))
	plays(t, m, 0)
	moves(t, "the first two are", m, at(2, 2))
	plays(t, m, 0)
	moves(t, "all are", m)
	stuck(t, m)
	m = sc.New(test(nil, code{load(0, x)}, nil))
	moves(t, "the middle one alone has a code", m, at(1, 0))
	plays(t, m, 0)
	moves(t, "the middle one alone has a code", m)
	m = sc.New(test(code{load(0, x)}, code{konst(0, 1)}, code{load(0, x)}))
	moves(t, "the middle one ends at once", m, at(0, 0), at(2, 0))
	plays(t, m, 1)
	moves(t, "the middle one ends at once", m, at(0, 0))
}

// 15.1: machines that are done at first.
func TestDoneAtFirst(t *testing.T) {
	for _, k := range []struct {
		what string
		test api.Test
		want state
	}{
		{"no instructions", test(nil), state{}},
		{"no instructions of three threads", test(nil, code{}, nil), state{}},
		{"what is held at first", from(test(nil, nil), locs{1, math.MinInt, math.MaxInt}, file{7: 1}, file{math.MinInt, math.MaxInt}),
			state{Outcome: api.Outcome{Mem: locs{1, math.MinInt, math.MaxInt}, Regs: [3]file{{7: 1}, {math.MinInt, math.MaxInt}}}}},
		{"all is gone through at once", from(test(code{konst(0, 5), ifZero(1, 3), konst(0, 6), move(2, 0)}, code{aluImm(api.FnAdd, 3, 3, 1)}), locs{7, 8, 9}, file{}, file{3: math.MaxInt}),
			state{at: [3]int{4, 1}, Outcome: api.Outcome{Mem: locs{7, 8, 9}, Regs: [3]file{{0: 5, 2: 5}, {3: math.MinInt}}}}},
		{"a branch to the end", test(code{ifZero(0, 3), load(1, x), put(x, 1)}), state{at: [3]int{3}}},
	} {
		m := sc.New(k.test)
		moves(t, k.what, m)
		holds(t, k.what, m, k.want)
		stuck(t, m)
	}
}

// accesses is memory operations of all kinds and functions.
func accesses() []api.Ins {
	return []api.Ins{load(0, 0), store(1, 0), put(0, -0x0102030405060709), swap(0, 1, 0), add(0, 1, 0), swap(1, 1, 0), add(1, 1, 0), add(2, 2, 0), load(2, 0)}
}

// after is what one access does to what is held, byte by byte.
func after(i api.Ins, regs file, mem locs) (file, locs) {
	index := 0
	if i.Index >= 0 {
		index = regs[i.Index]
	}
	from, held := first(i, index), bytesOf(mem[i.Loc])
	var read [8]byte
	copy(read[:], held[from:from+i.Size])
	old, datum := valueOf(read), i.Imm
	if i.A >= 0 {
		datum = regs[i.A]
	}
	if i.Op == api.OpRmw && i.Fn == api.FnAdd {
		datum += old
	}
	if i.Op != api.OpLoad {
		b := bytesOf(datum)
		copy(held[from:], b[:i.Size])
		mem[i.Loc] = valueOf(held)
	}
	if i.Op != api.OpStore {
		regs[i.Dst] = old
	}
	return regs, mem
}

// 15.1: loads, stores and OpRmws of every size, Fn, location, offset and index:
// the bytes beside stay.
func TestAccesses(t *testing.T) {
	for _, i := range accesses() {
		for _, size := range sizes {
			for _, off := range offsets[size] {
				for loc := range api.MaxLocs {
					i := part(off, size, i)
					i.Loc = loc
					access(t, i, file{5: -1, 6: 6}, odd...)
					for _, index := range odd {
						access(t, by(2, i), file{5: -1, 2: index}, 0x0102030405060708, math.MinInt+1)
					}
				}
			}
		}
	}
}

// access does one access with many values, which must come to what after says.
func access(t *testing.T, i api.Ins, regs file, data ...int) {
	t.Helper()
	for _, datum := range data {
		regs[1] = datum
		for _, init := range []locs{bytewise, {-1, -1, -1}} {
			m := sc.New(from(test(code{i}), init, regs))
			moves(t, "one access", m, at(0, 0))
			holds(t, "one access, at first", m, state{Outcome: api.Outcome{Regs: [3]file{regs}, Mem: init}})
			plays(t, m, 0)
			moves(t, "one access", m)
			want := state{at: [3]int{1}}
			want.Regs[0], want.Mem = after(i, regs, init)
			holds(t, "one access", m, want)
			if t.Failed() {
				t.Fatalf("%+v with %v, %v", i, regs, init)
			}
		}
	}
}

// 15.1: numbers written out, of what parts of locations hold.
func TestParts(t *testing.T) {
	for _, k := range []struct {
		what string
		i    api.Ins
		r0   int // what register 0 holds behind it; register 1 holds datum at first
		mem  int
	}{
		{"a byte is read", part(3, 1, load(0, x)), 0x84, 0x0807060584030201},
		{"two bytes are read", part(2, 2, load(0, x)), 0x8403, 0x0807060584030201},
		{"four bytes are read", part(4, 4, load(0, x)), 0x08070605, 0x0807060584030201},
		{"four bytes, none below 0", part(0, 4, load(0, x)), 0x84030201, 0x0807060584030201},
		{"eight bytes are read", load(0, x), 0x0807060584030201, 0x0807060584030201},
		{"a byte is written", part(7, 1, store(1, x)), 5, 0x7F07060584030201},
		{"the lowest byte is written", part(0, 1, store(1, x)), 5, 0x080706058403027F},
		{"two bytes are written", part(4, 2, store(1, x)), 5, 0x0807FF7F84030201},
		{"four bytes are written", part(0, 4, store(1, x)), 5, 0x08070605FFFFFF7F},
		{"eight bytes are written", store(1, x), 5, -129},
		{"a number is written", part(2, 2, put(x, 0x123456)), 5, 0x0807060534560201},
		{"a byte is swapped", part(3, 1, swap(0, 1, x)), 0x84, 0x080706057F030201},
		{"four bytes are swapped", part(4, 4, swap(0, 1, x)), 0x08070605, -129<<32 | 0x84030201},
		{"a byte's sum wraps", part(3, 1, add(0, 1, x)), 0x84, 0x0807060503030201},
		{"two bytes' sum", part(2, 2, add(0, 1, x)), 0x8403, 0x0807060583820201},
		{"eight bytes' sum", add(0, 1, x), 0x0807060584030201, 0x0807060584030201 - 129},
	} {
		m := sc.New(from(test(code{k.i}), locs{0x0807060584030201, -1, 1}, file{5, -129}))
		plays(t, m, 0)
		holds(t, k.what, m, state{at: [3]int{1}, Outcome: api.Outcome{Regs: [3]file{{k.r0, -129}}, Mem: locs{k.mem, -1, 1}}})
	}
}

// 15.1: a read overlaps several writes, and takes of each byte what lies there.
func TestOverlaps(t *testing.T) {
	x1 := from(test(
		code{part(0, 4, put(y, -1)), part(1, 1, put(y, 0x22))},
		code{part(4, 4, put(y, 0x55443322)), part(6, 2, put(y, 0x7766))},
		code{load(0, y), part(2, 2, load(1, y))}), bytewise)
	for _, k := range []struct {
		what   string
		picks  []int
		r0, r1 int
	}{
		{"ahead of all", []int{2, 2, 0, 0, 0, 0}, 0x1817161514131211, 0x1413},
		{"behind the first of thread 0", []int{0, 2, 2, 0, 0, 0}, 0x18171615FFFFFFFF, 0xFFFF},
		{"behind the first of thread 1", []int{1, 2, 2, 0, 0, 0}, 0x5544332214131211, 0x1413},
		{"one ahead of thread 0, one behind its first", []int{1, 2, 0, 2, 0, 0}, 0x5544332214131211, 0xFFFF},
		{"behind three", []int{0, 1, 0, 1, 0, 0}, 0x55443322FFFF22FF, 0xFFFF},
		{"behind all", []int{0, 0, 0, 0, 0, 0}, 0x77663322FFFF22FF, 0xFFFF},
	} {
		m := sc.New(x1)
		plays(t, m, k.picks...)
		moves(t, k.what, m)
		want := state{at: [3]int{2, 2, 2}, Outcome: api.Outcome{Mem: locs{bytewise[x], 0x77663322FFFF22FF, bytewise[z]}}}
		want.Regs[2][0], want.Regs[2][1] = k.r0, k.r1
		holds(t, k.what, m, want)
	}
}

// 15.1: an OpRmw reads and writes as one, with what its A held ahead.
func TestAsOne(t *testing.T) {
	x1 := from(test(code{add(0, 1, x), add(0, 1, x)}, code{swap(1, 1, x)}), locs{5}, file{1: 10}, file{1: 100})
	for _, k := range []struct {
		picks  []int
		r0, r1 int
		mem    int
	}{
		{[]int{0, 0, 0}, 15, 25, 100},
		{[]int{0, 1, 0}, 100, 15, 110},
		{[]int{1, 0, 0}, 110, 5, 120},
	} {
		m := sc.New(x1)
		plays(t, m, k.picks...)
		want := state{at: [3]int{2, 1}, Outcome: api.Outcome{Mem: locs{k.mem}}}
		want.Regs[0], want.Regs[1] = file{k.r0, 10}, file{1: k.r1}
		holds(t, "sums and a swap", m, want)
	}
	m := sc.New(from(test(code{add(3, 3, z), swap(3, 3, z), by(3, part(0, 1, swap(3, 3, z)))}), locs{z: 8}, file{3: -3}))
	plays(t, m, 0)
	holds(t, "to its own A", m, state{at: [3]int{1}, Outcome: api.Outcome{Mem: locs{z: 5}, Regs: [3]file{{3: 8}}}})
	plays(t, m, 0)
	holds(t, "to its own A", m, state{at: [3]int{2}, Outcome: api.Outcome{Mem: locs{z: 8}, Regs: [3]file{{3: 5}}}})
	plays(t, m, 0)
	holds(t, "to its own A and Index", m, state{at: [3]int{3}, Outcome: api.Outcome{Mem: locs{z: 8 + 5<<40}}})
}

// 15.1: a fence and an ISB are passed, and nothing else comes of them.
func TestPassed(t *testing.T) {
	row := code{isb()}
	for pred := 1; pred <= 3; pred++ {
		for succ := 1; succ <= 3; succ++ {
			row = append(row, fence(pred, succ))
		}
	}
	want := state{Outcome: api.Outcome{Mem: bytewise, Regs: [3]file{{1, 2, 3, 4, 5, 6, 7, -8}, {math.MinInt, 7: math.MaxInt}}}}
	for _, i := range row {
		m := sc.New(from(test(code{i, i, i}, code{i}), bytewise, want.Regs[:]...))
		for n := range 3 {
			want.at = [3]int{n, 0}
			holds(t, "ahead of a fence", m, want)
			moves(t, "ahead of a fence", m, at(0, n), at(1, 0))
			plays(t, m, 0)
		}
		plays(t, m, 0)
		want.at = [3]int{3, 1}
		holds(t, "behind fences", m, want)
		moves(t, "behind fences", m)
	}
	// Nothing waits: what was written is there, with a fence or without.
	m := sc.New(test(code{put(x, 1), fence(3, 3), load(0, y)}, code{put(y, 1), load(0, x)}))
	plays(t, m, 0, 1, 1)
	if m.Mem(x) != 1 || m.Reg(1, 0) != 1 {
		t.Errorf("15.1: x is %d, read as %d", m.Mem(x), m.Reg(1, 0))
	}
	moves(t, "at the fence", m, at(0, 1))
}

// 15.1: behind a read a thread goes on at once, along the branch that it asks for.
func TestBranches(t *testing.T) {
	x1 := test(code{load(0, x), ifZero(0, 4), aluImm(api.FnAdd, 1, 0, 1), store(1, y), load(2, y)}, code{put(x, 7)})
	m := sc.New(x1)
	plays(t, m, 0)
	moves(t, "0 was read", m, at(0, 4), at(1, 0))
	plays(t, m, 0, 0)
	holds(t, "0 was read", m, state{at: [3]int{5, 1}, Outcome: api.Outcome{Mem: locs{7}}})
	m = sc.New(x1)
	plays(t, m, 1, 0)
	moves(t, "7 was read", m, at(0, 3))
	plays(t, m, 0)
	moves(t, "8 was written", m, at(0, 4))
	plays(t, m, 0)
	holds(t, "8 was written", m, state{at: [3]int{5, 1}, Outcome: api.Outcome{Mem: locs{7, 8}, Regs: [3]file{{7, 8, 8}}}})
	m = sc.New(test(code{load(0, x), ifZero(0, 4), put(x, 1), put(y, 1)}))
	plays(t, m, 0)
	moves(t, "to the end", m)
	stuck(t, m)
}

// 15.1: where an access lies hangs on what was read.
func TestAddresses(t *testing.T) {
	x1 := from(test(code{part(0, 1, load(0, x)), by(0, part(0, 1, put(y, -1))), by(0, part(1, 1, load(1, z)))}), locs{3, 0, bytewise[x]})
	m := sc.New(x1)
	plays(t, m, 0, 0, 0)
	holds(t, "by 3", m, state{at: [3]int{3}, Outcome: api.Outcome{Mem: locs{3, 0xFF000000, bytewise[x]}, Regs: [3]file{{3, 5}}}})
	x1.Init[x] = 255
	m = sc.New(x1)
	plays(t, m, 0, 0, 0)
	holds(t, "by 255", m, state{at: [3]int{3}, Outcome: api.Outcome{Mem: locs{255, -1 << 56, bytewise[x]}, Regs: [3]file{{255, 1}}}})
}

// 15.1: Mem of a location; 0 of none.
func TestMem(t *testing.T) {
	m := sc.New(from(test(code{put(y, 4)}), locs{math.MinInt, -1, math.MaxInt}))
	for n := range 2 {
		want := map[int]int{x: math.MinInt, y: []int{-1, 4}[n], z: math.MaxInt}
		for _, loc := range append([]int{-3, 5, 6, 1 << 33}, odd...) {
			if m.Mem(loc) != want[loc] {
				t.Errorf("15.1: Mem(%d) = %d, want %d", loc, m.Mem(loc), want[loc])
			}
		}
		m.Do(0)
	}
}

// R7: by promotion it tells what its Core does, of each state.
func TestPromoted(t *testing.T) {
	x1 := from(test(code{konst(1, 9), part(2, 2, store(1, y)), isb()}, code{load(0, y)}), locs{}, file{}, file{3: 3})
	m, c := sc.New(x1), mach.NewCore(x1)
	for _, old := range []int{0, 9 << 16} {
		for thread := -1; thread < 4; thread++ {
			span, datum, spot := m.Spot(thread)
			span2, datum2, spot2 := c.Spot(thread)
			i, ready := m.Ready(thread)
			i2, ready2 := c.Ready(thread)
			if span != span2 || datum != datum2 || spot != spot2 || i != i2 || ready != ready2 || m.At(thread) != c.At(thread) {
				t.Errorf("R7: thread %d: %v %d %v %v %v %d", thread, span, datum, spot, i, ready, m.At(thread))
			}
			for _, reg := range odd {
				if m.Reg(thread, reg) != c.Reg(thread, reg) {
					t.Errorf("R7: Reg(%d, %d) = %d, want %d", thread, reg, m.Reg(thread, reg), c.Reg(thread, reg))
				}
			}
		}
		if m.Threads() != c.Threads() || m.Mark() != c.Mark() || m.Copy().Mark() != c.Mark() || m.Core.Mark() != c.Mark() {
			t.Errorf("R7: %d threads, Mark %q, want %q", m.Threads(), m.Mark(), c.Mark())
		}
		m.Do(0)
		c.Pass(0, old)
	}
}
