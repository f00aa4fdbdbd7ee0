package sc_test

import (
	"math"
	"slices"
	"testing"

	"belated/api"
	"belated/litmus"
	"belated/mach"
	"belated/sc"
)

// twin is a Twin as what it is.
func twin(t *testing.T, m *sc.Machine) *sc.Machine {
	t.Helper()
	other, ok := m.Twin().(*sc.Machine)
	if !ok || other == nil || other == m || other.Core == m.Core {
		t.Fatalf("14.1: a Twin of %p is %p", m, other)
	}
	return other
}

// 14.1: a Twin goes on while the one it was made of stays, and the other way round.
func TestTwin(t *testing.T) {
	x1 := from(test(code{put(x, 1), load(0, y), add(1, 2, z)}, code{put(y, 1), load(0, x), swap(1, 2, z)}), locs{z: 5}, file{2: 20}, file{2: 30})
	for _, goesTwin := range []bool{true, false} {
		m := sc.New(x1)
		plays(t, m, 0)
		other := twin(t, m)
		goes, stays := m, other
		if goesTwin {
			goes, stays = other, m
		}
		was := told(m)
		holds(t, "14.1: a Twin", other, was)
		moves(t, "14.1: a Twin", other, m.Moves()...)
		if other.Key() != m.Key() {
			t.Errorf("14.1: a Twin's Key is %q, want %q", other.Key(), m.Key())
		}
		key := m.Key()
		plays(t, goes, 0, 0, 0, 0, 0)
		moves(t, "14.1: one that went on", goes)
		end := state{at: [3]int{3, 3}, Outcome: api.Outcome{Mem: locs{1, 1, 30}, Regs: [3]file{{0, 5, 20}, {1, 25, 30}}}}
		holds(t, "14.1: one that went on", goes, end)
		holds(t, "14.1: one that stays", stays, was)
		moves(t, "14.1: one that stays", stays, at(0, 1), at(1, 0))
		if stays.Key() != key || goes.Key() == key {
			t.Errorf("14.1: Keys %q, of the one that went on %q, ahead %q", stays.Key(), goes.Key(), key)
		}
		plays(t, stays, 1, 1, 1, 0, 0)
		holds(t, "14.1: it goes on later", stays, state{at: [3]int{3, 3}, Outcome: api.Outcome{Mem: locs{1, 1, 50}, Regs: [3]file{{1, 30, 20}, {1, 5, 30}}}})
		holds(t, "14.1: the other stays", goes, end)
	}
}

// 14.1: Twins of Twins, of one at first, of one that is done.
func TestTwins(t *testing.T) {
	row := []*sc.Machine{sc.New(test(code{put(x, 1), put(x, 2), put(x, 3)}))}
	for n := range 4 {
		next := twin(t, row[n])
		if next.Do(0) != (n < 3) {
			t.Errorf("14.1: Do of Twin %d is %v", n, n >= 3)
		}
		row = append(row, next)
	}
	for n, m := range row {
		holds(t, "14.1: in a row of Twins", m, state{at: [3]int{min(n, 3)}, Outcome: api.Outcome{Mem: locs{min(n, 3)}}})
	}
}

// 14.1: Twins of drawn walks: each goes on by itself.
func TestManyTwins(t *testing.T) {
	t.Parallel()
	d := dice(155)
	for range 1500 {
		x := d.right(6)
		type going struct {
			m    *sc.Machine
			gone []int
		}
		all := []going{{m: sc.New(x)}}
		for range 30 {
			k := d.below(len(all))
			if len(all) < 5 && d.below(4) == 0 {
				all = append(all, going{twin(t, all[k].m), slices.Clone(all[k].gone)})
			}
			if can := all[k].m.Moves(); len(can) > 0 {
				pick := d.below(len(can))
				plays(t, all[k].m, pick)
				all[k].gone = append(all[k].gone, can[pick].Thread)
			}
			for _, g := range all {
				p := behind(x, g.gone)
				holds(t, "14.1: one of some Twins", g.m, p.state())
				moves(t, "14.1: one of some Twins", g.m, p.moves()...)
			}
			if t.Failed() {
				t.Fatalf("%+v", x)
			}
		}
	}
}

// reached is a machine behind picks.
func reached(t *testing.T, x api.Test, picks ...int) *sc.Machine {
	t.Helper()
	m := sc.New(x)
	plays(t, m, picks...)
	return m
}

// keys is whether two machines of one test, of which it is known whether they
// are in one state, have one Key.
func keys(t *testing.T, what string, m, n *sc.Machine, same bool) {
	t.Helper()
	if (told(m) == told(n)) != same {
		t.Fatalf("%s: the test itself is wrong: %+v, %+v", what, told(m), told(n))
	}
	if (m.Key() == n.Key()) != same {
		t.Errorf("14.1: %s: Keys %q and %q", what, m.Key(), n.Key())
	}
}

// 14.1: Keys of states that are alike, and of states that differ in one thing.
func TestKeys(t *testing.T) {
	x1 := test(code{put(x, 1), isb(), isb()}, code{put(x, 2), isb()})
	keys(t, "both at first", sc.New(x1), sc.New(x1), true)
	keys(t, "come to by another way", reached(t, x1, 0, 1, 0), reached(t, x1, 0, 0, 1), true)
	keys(t, "come to by another way, all done", reached(t, x1, 0, 1, 0, 1, 0), reached(t, x1, 0, 1, 1, 0, 0), true)
	keys(t, "one location alone", reached(t, x1, 0, 1), reached(t, x1, 1, 0), false)
	keys(t, "one location alone, at the end", reached(t, x1, 0, 0, 0, 0, 0), reached(t, x1, 1, 1, 0, 0, 0), false)
	keys(t, "one index alone", reached(t, x1, 0, 0), reached(t, x1, 0), false)
	keys(t, "one index alone, at the end", reached(t, x1, 0, 0, 0), reached(t, x1, 0, 0), false)
	keys(t, "one index alone, of another thread", reached(t, x1, 0, 1, 0), reached(t, x1, 0, 1, 1), false)
	x2 := test(code{load(0, x), load(1, y)}, code{put(x, 1), put(x, 0)})
	keys(t, "one register alone", reached(t, x2, 0, 1, 1), reached(t, x2, 1, 0, 1), false)
	keys(t, "what was read is the same", reached(t, x2, 0, 1, 1), reached(t, x2, 1, 1, 0), true)
}

// 14.1: two that differ in one register, or one location, of all that there are.
func TestKeysOfEach(t *testing.T) {
	for thread := range api.MaxThreads {
		for reg := range api.MaxRegs {
			// The thread reads x ahead of another's write to it, or behind; then x is as it was.
			codes := make([]code, api.MaxThreads)
			codes[thread] = code{load(reg, x)}
			other := (thread + 1) % api.MaxThreads
			codes[other] = code{put(x, 1), put(x, 0)}
			x1 := test(codes...)
			reads, writes := 0, 1
			if other < thread {
				reads, writes = 1, 0
			}
			ahead := reached(t, x1, reads, 0, 0)
			between := reached(t, x1, writes, reads, 0)
			keys(t, "one register alone", ahead, between, false)
			last := reached(t, x1, writes, writes, 0)
			keys(t, "what is read twice is the same", ahead, last, true)
		}
	}
	for loc := range api.MaxLocs {
		x1 := test(code{put(loc, 1)}, code{put(loc, 2)})
		keys(t, "one location alone", reached(t, x1, 0, 0), reached(t, x1, 1, 0), false)
		for _, v := range odd {
			for _, w := range odd {
				x1.Code = []code{{put(loc, v)}, {put(loc, w)}}
				keys(t, "one location alone", reached(t, x1, 0, 0), reached(t, x1, 1, 0), v == w)
			}
		}
	}
}

// 14.1: no numbers of a Key run on as others do.
func TestKeysOfDigits(t *testing.T) {
	for _, pair := range [][2]int{{1, 11}, {0, 10}, {1, 101}, {1, -1}, {-1, -11}, {5, 15}, {0, 100}, {11, 111}, {-9, 9}, {2, 12}, {0, -10}} {
		a, b := pair[0], pair[1]
		stores := test(code{put(x, a), put(y, a), put(z, a)}, code{put(x, b), put(y, b), put(z, b)})
		// What register 7 of the last thread holds stands just ahead of x, if anything does.
		reads := from(test(code{put(y, b), put(x, b)}, code{load(7, y), put(x, a)}), locs{a, a, a})
		for _, x1 := range []api.Test{stores, reads} {
			if n := apart(t, x1); n < 15 {
				t.Errorf("too thin: %d states", n)
			}
		}
	}
}

// apart goes through all states of a test, each as often as it is come to: two
// must have one Key just if they are one. It tells how many there are.
func apart(t *testing.T, x1 api.Test) int {
	t.Helper()
	byKey, byState := map[string]state{}, map[state]string{}
	var onward func(m *sc.Machine)
	onward = func(m *sc.Machine) {
		key, s := m.Key(), told(m)
		if other, is := byKey[key]; is && other != s {
			t.Fatalf("14.1: one Key %q of %+v and %+v", key, other, s)
		}
		if other, is := byState[s]; is && other != key {
			t.Fatalf("14.1: Keys %q and %q of one state %+v", key, other, s)
		}
		byKey[key], byState[s] = s, key
		for pick := range m.Moves() {
			next := twin(t, m)
			plays(t, next, pick)
			onward(next)
		}
	}
	onward(sc.New(x1))
	return len(byKey)
}

// 14.1: Keys of all states of drawn tests.
func TestManyKeys(t *testing.T) {
	t.Parallel()
	d := dice(156)
	states := 0
	for range 1500 {
		if x := d.right(4); steps(x) <= 8 {
			states += apart(t, x)
		}
	}
	if states < 5000 {
		t.Errorf("drawn too thin: %d states", states)
	}
}

// R1: what is only asked turns nothing.
func TestAskedOnly(t *testing.T) {
	d := dice(154)
	for range 300 {
		x := d.right(api.MaxCode)
		m, n := sc.New(x), sc.New(x)
		for len(m.Moves()) > 0 {
			for range 2 {
				m.Key()
				m.Twin()
				m.Done()
				m.Outcome()
				m.Mem(d.below(5) - 1)
				m.Moves()
			}
			keys(t, "one was asked more", m, n, true)
			pick := d.below(len(n.Moves()))
			plays(t, m, pick)
			plays(t, n, pick)
		}
		keys(t, "one was asked more", m, n, true)
	}
}

// R3: a test that is turned behind New turns nothing of the machine; New turns
// nothing of the test.
func TestTurnedTest(t *testing.T) {
	text := `ARM T { x=5; 0:X1=7; 1:X2=2; } P0 | P1 ; LDR X0,[x] | STR X2,[x] ; CBZ X0,L | ISB ; STR X1,[y] | LDADD X2,X3,[y] ; L: LDR X4,[y] | ; exists x=0`
	x1 := parsed(t, text)
	m, n := sc.New(x1), sc.New(parsed(t, text))
	if was, e := litmus.Print(x1); e != api.OK {
		t.Fatal(e)
	} else if now, _ := litmus.Print(parsed(t, text)); was != now {
		t.Errorf("R3: New turned the test to\n%s", was)
	}
	for pick := range 3 {
		for _, c := range x1.Code {
			for at := range c {
				c[at] = put(z, 9)
			}
		}
		x1.Code[0], x1.Code[1] = nil, code{isb()}
		x1.Init, x1.Regs, x1.Cond[0] = locs{9, 9, 9}, [3]file{{9}, {9}, {9}}, api.Cond{}
		keys(t, "R3: the test was turned", m, n, true)
		moves(t, "R3: the test was turned", m, n.Moves()...)
		plays(t, m, pick%2)
		plays(t, n, pick%2)
	}
	plays(t, m, 0, 0, 0)
	holds(t, "R3: the test was turned", m, state{at: [3]int{4, 3}, Outcome: api.Outcome{Mem: locs{2, 9}, Regs: [3]file{{0: 5, 1: 7, 4: 7}, {2: 2, 3: 7}}}})
}

// R3: codes that share memory, with room behind them, stay as they were.
func TestSharedCodes(t *testing.T) {
	room := code{put(x, 1), load(0, y), put(z, 3), isb(), isb()}
	was := slices.Clone(room)
	codes := []code{room[:2], room[1:3], room[:1], room}
	m := sc.New(test(codes[:3]...))
	for m.Do(0) {
	}
	if !slices.Equal(room, was) || len(codes[2]) != 1 || !slices.Equal(codes[3], was) {
		t.Errorf("R3: the codes were turned to %v", room)
	}
	holds(t, "codes that share memory", m, state{at: [3]int{2, 2, 1}, Outcome: api.Outcome{Mem: locs{1, 0, 3}}})
}

// R3: a list of moves that is turned, or used up to its room, turns nothing.
func TestTurnedMoves(t *testing.T) {
	m := sc.New(test(code{isb(), isb()}, code{put(x, 1)}, code{load(0, x), isb()}))
	want := []api.Move{at(0, 0), at(1, 0), at(2, 0)}
	a, b := m.Moves(), m.Moves()
	for n := range a[:cap(a)] {
		a[:cap(a)][n] = api.Move{Kind: 9, Thread: 9, At: 9, N: 9}
	}
	if !slices.Equal(b, want) || !slices.Equal(b[:cap(b)][len(b):], make([]api.Move, cap(b)-len(b))) {
		t.Errorf("R3: a list of moves that was turned turned another one to %v", b[:cap(b)])
	}
	moves(t, "R3: a list of moves was turned", m, want...)
	plays(t, m, 1)
	if !slices.Equal(b, want) {
		t.Errorf("R3: a list of moves became %v", b)
	}
	moves(t, "R3: a list of moves was turned", m, at(0, 0), at(2, 0))
}

// R9: two machines of one test have nothing in common.
func TestTwoOfOne(t *testing.T) {
	x1 := buffering()
	m, n := sc.New(x1), sc.New(x1)
	plays(t, m, 0, 1, 0, 0)
	holds(t, "R9: another one of the test", n, state{})
	moves(t, "R9: another one of the test", n, at(0, 0), at(1, 0))
	plays(t, n, 1, 1)
	if m.Reg(0, 0) != 1 || m.Reg(1, 0) != 1 || m.Mem(x) != 1 || n.Mem(x) != 0 {
		t.Errorf("R9: %+v, %+v", told(m), told(n))
	}
}

// 14.1: Play goes by Do, in one or in two.
func TestPlay(t *testing.T) {
	m, n := sc.New(buffering()), sc.New(buffering())
	if mach.Play(m, 1, 0, 1, 0, 0) != 4 || mach.Play(n, 1, 0) != 2 || mach.Play(n, 5, 0) != 0 || mach.Play(n, 1, 0) != 2 {
		t.Error("14.1: Play")
	}
	keys(t, "a Play in two", m, n, true)
	if mach.Play(m, math.MaxInt, 0) != 0 || mach.Play(m) != 0 {
		t.Error("14.1: Play behind the end")
	}
}
