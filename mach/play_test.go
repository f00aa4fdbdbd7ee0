package mach_test

import (
	"maps"
	"math"
	"slices"
	"strconv"
	"testing"

	"belated/api"
	"belated/cond"
	"belated/mach"
	"belated/model"
)

// noter is a machine that answers each Do as it is told to, and notes them.
type noter struct {
	answers []bool
	asked   []int
}

func (m *noter) Moves() []api.Move    { return nil }
func (m *noter) Done() bool           { return false }
func (m *noter) Outcome() api.Outcome { return api.Outcome{} }
func (m *noter) Key() string          { return "" }
func (m *noter) Twin() mach.Machine   { return m }

func (m *noter) Do(i int) bool {
	m.asked = append(m.asked, i)
	return len(m.asked) <= len(m.answers) && m.answers[len(m.asked)-1]
}

// 14.1: Do of each pick, in order, as long as it is true; none behind.
func TestPlayAsks(t *testing.T) {
	for _, k := range []struct {
		answers     []bool
		picks       []int
		done, asked int
	}{
		{nil, nil, 0, 0},
		{[]bool{true}, []int{}, 0, 0},
		{[]bool{true}, []int{4}, 1, 1},
		{[]bool{false}, []int{4}, 0, 1},
		{[]bool{true, true, true}, []int{2, 1, 0}, 3, 3},
		{[]bool{true, true, false, true}, []int{0, 0, 7, 0}, 2, 3},
		{[]bool{false, true, true}, []int{-1, 0, 1}, 0, 1},
		{[]bool{true, true}, []int{math.MinInt, math.MaxInt}, 2, 2},
	} {
		m := &noter{answers: k.answers}
		if n := mach.Play(m, k.picks...); n != k.done || !slices.Equal(m.asked, k.picks[:k.asked]) {
			t.Errorf("14.1: Play of %v, answered %v: %d, asked %v, want %d, %d", k.picks, k.answers, n, m.asked, k.done, k.asked)
		}
	}
	long := &noter{answers: slices.Repeat([]bool{true}, 100000)}
	if n := mach.Play(long, make([]int, 100001)...); n != 100000 || len(long.asked) != 100001 {
		t.Errorf("14.1: Play of a long row = %d", n)
	}
}

// faulty is a machine whose Do panics at its third.
type faulty struct{ noter }

func (m *faulty) Do(i int) bool {
	if len(m.asked) == 2 {
		panic("no more")
	}
	return m.noter.Do(i)
}

// R6: no machine, one that is nil inside, one that panics: what was done counts.
func TestPlayPanicsNever(t *testing.T) {
	if n := mach.Play(nil); n != 0 {
		t.Errorf("R6: Play of no machine = %d", n)
	}
	if n := mach.Play(nil, 0, 1); n != 0 {
		t.Errorf("R6: Play of no machine = %d", n)
	}
	var none *inter
	if n := mach.Play(none, 0, 1); n != 0 {
		t.Errorf("R6: Play of a nil machine = %d", n)
	}
	if n := mach.Play(&faulty{noter{answers: []bool{true, true, true, true}}}, 0, 0, 0, 0); n != 2 {
		t.Errorf("R6: Play of a machine that panics = %d", n)
	}
}

// inter is a machine of the tests' own: threads that go on one instruction at a
// time, over one memory. It embeds a Core, and lays nothing over its calls.
type inter struct {
	*mach.Core
	mem [api.MaxLocs]int
}

// calls is what a machine that embeds a Core tells by promotion.
type calls interface {
	mach.Machine
	Threads() int
	Ready(thread int) (api.Ins, bool)
	Reg(thread, reg int) int
	At(thread int) int
	Spot(thread int) (span api.Span, datum int, ok bool)
	Pass(thread, old int) bool
	Copy() *mach.Core
	Mark() string
}

var _ calls = (*inter)(nil)

func start(x api.Test) *inter { return &inter{mach.NewCore(x), x.Init} }

func (m *inter) Moves() (moves []api.Move) {
	for thread := range m.Threads() {
		if _, ok := m.Ready(thread); ok {
			moves = append(moves, api.Move{Kind: api.MoveDo, Thread: thread, At: m.At(thread)})
		}
	}
	return moves
}

func (m *inter) Do(i int) bool {
	moves := m.Moves()
	if i < 0 || i >= len(moves) {
		return false
	}
	thread := moves[i].Thread
	ins, _ := m.Ready(thread)
	span, datum, ok := m.Spot(thread)
	if !ok {
		return m.Pass(thread, 0)
	}
	old := m.see(span)
	switch {
	case ins.Op == api.OpStore, ins.Fn == api.FnSwap:
		m.lay(span, datum)
	case ins.Fn == api.FnAdd:
		m.lay(span, old+datum)
	}
	return m.Pass(thread, old)
}

// see is the bytes of a footprint, the lowest first.
func (m *inter) see(span api.Span) int {
	from, n, to := bytesOf(m.mem[span.Loc]), 0, [8]byte{}
	for b, v := range from {
		if span.Mask>>b&1 == 1 {
			to[n] = v
			n++
		}
	}
	return valueOf(to)
}

// lay lays the low bytes of a value over a footprint.
func (m *inter) lay(span api.Span, v int) {
	to, from := bytesOf(m.mem[span.Loc]), bytesOf(v)
	n := 0
	for b := range to {
		if span.Mask>>b&1 == 1 {
			to[b] = from[n]
			n++
		}
	}
	m.mem[span.Loc] = valueOf(to)
}

func (m *inter) Done() bool { return len(m.Moves()) == 0 }

func (m *inter) Outcome() api.Outcome {
	o := api.Outcome{Mem: m.mem}
	for thread := range o.Regs {
		for reg := range o.Regs[thread] {
			o.Regs[thread][reg] = m.Reg(thread, reg)
		}
	}
	return o
}

func (m *inter) Key() string {
	key := m.Mark()
	for _, v := range m.mem {
		key += strconv.Itoa(v) + "."
	}
	return key
}

func (m *inter) Twin() mach.Machine { return &inter{m.Copy(), m.mem} }

// buffering is the test of store buffering.
func buffering() api.Test {
	return test([]code{{put(x, 1), load(0, y)}, {put(y, 1), load(0, x)}})
}

// 14.1, and 'Ways': Play of a machine that embeds a Core, whose calls it tells.
func TestPlay(t *testing.T) {
	for _, k := range []struct {
		picks  []int
		done   int
		r0, r1 int
		ats    [2]int
	}{
		{nil, 0, 0, 0, [2]int{0, 0}},
		{[]int{0, 0, 0, 0}, 4, 0, 1, [2]int{2, 2}},
		{[]int{0, 1, 0, 0}, 4, 1, 1, [2]int{2, 2}},
		{[]int{1, 1, 0, 0}, 4, 1, 0, [2]int{2, 2}},
		{[]int{0, 0, 0, 0, 0, 0}, 4, 0, 1, [2]int{2, 2}},
		{[]int{0, 0, 1}, 2, 0, 0, [2]int{2, 0}},
		{[]int{1, 2, 0}, 1, 0, 0, [2]int{0, 1}},
		{[]int{-1, 0}, 0, 0, 0, [2]int{0, 0}},
		{[]int{0, math.MinInt, 0}, 1, 0, 0, [2]int{1, 0}},
		{[]int{0, math.MaxInt, 0}, 1, 0, 0, [2]int{1, 0}},
	} {
		m := start(buffering())
		if n := mach.Play(m, k.picks...); n != k.done {
			t.Errorf("14.1: Play of %v = %d, want %d", k.picks, n, k.done)
		}
		if m.At(0) != k.ats[0] || m.At(1) != k.ats[1] || m.Done() != (k.done == 4) {
			t.Errorf("14.1: Play of %v: the threads stand at %d, %d, done %v", k.picks, m.At(0), m.At(1), m.Done())
		}
		if r0, r1 := m.Reg(0, 0), m.Reg(1, 0); r0 != k.r0 || r1 != k.r1 {
			t.Errorf("14.1: Play of %v: read %d, %d, want %d, %d", k.picks, r0, r1, k.r0, k.r1)
		}
	}
}

// R3: the picks stay as they were, what lies behind them too; a Play in two goes as one.
func TestPicks(t *testing.T) {
	room := []int{0, 1, 0, 0, 9, 9}
	m, n := start(buffering()), start(buffering())
	if mach.Play(m, room[:4]...) != 4 || !slices.Equal(room, []int{0, 1, 0, 0, 9, 9}) {
		t.Errorf("R3: Play turned the picks to %v", room)
	}
	if mach.Play(n, 0, 1) != 2 || mach.Play(n, 0, 0) != 2 || n.Key() != m.Key() {
		t.Errorf("14.1: a Play in two comes to %q, in one to %q", n.Key(), m.Key())
	}
}

// 14.1: a Twin goes by itself.
func TestTwin(t *testing.T) {
	m := start(buffering())
	mach.Play(m, 0)
	twin, key := m.Twin(), m.Key()
	if mach.Play(twin, 0, 0, 0) != 3 || m.Key() != key || twin.Key() == key || !twin.Done() || m.Done() {
		t.Errorf("14.1: %q, its Twin %q", m.Key(), twin.Key())
	}
	if mach.Play(m, 1, 0, 0) != 3 || m.Reg(0, 0) != 1 || twin.Outcome().Regs[0][0] != 0 {
		t.Error("14.1: what a Twin was made of goes on")
	}
}

// ends is all outcomes of a machine's walks, each state gone through once by its
// Key, or each as often as it is come to.
func ends(m mach.Machine, once bool) []api.Outcome {
	out, seen := map[api.Outcome]bool{}, map[string]bool{}
	var from func(m mach.Machine)
	from = func(m mach.Machine) {
		if once && seen[m.Key()] {
			return
		}
		seen[m.Key()] = true
		if m.Done() {
			out[m.Outcome()] = true
		}
		for i := range m.Moves() {
			twin := m.Twin()
			mach.Play(twin, i)
			from(twin)
		}
	}
	from(m)
	return cond.Sort(slices.Collect(maps.Keys(out))...)
}

// 14.1 to 14.4: a machine upon a Core comes to what the model of interleavings
// allows; by its Mark states are told apart enough.
func TestInterleavings(t *testing.T) {
	t.Parallel()
	d := dice(141)
	several := 0
	for range 1500 {
		x := d.right()
		for loc := range x.Init {
			x.Init[loc] = d.value()
		}
		got := ends(start(x), true)
		want, e, _ := model.Allowed(x, model.Text(0))
		if e != api.OK || !slices.Equal(got, want) {
			t.Fatalf("interleavings of %+v:\n got %v\nwant %v", x, got, want)
		}
		if len(x.Code) < 3 && !slices.Equal(ends(start(x), false), want) {
			t.Fatalf("14.3: by Marks other interleavings of %+v", x)
		}
		if len(got) > 1 {
			several++
		}
	}
	if several < 100 {
		t.Errorf("drawn too thin: %d tests have several outcomes", several)
	}
}
