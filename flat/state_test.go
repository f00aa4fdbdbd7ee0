package flat_test

import (
	"math"
	"slices"
	"testing"

	"belated/api"
	"belated/flat"
	"belated/litmus"
	"belated/mach"
)

// twin is a Twin as what it is.
func twin(t *testing.T, m *flat.Machine) *flat.Machine {
	t.Helper()
	other, ok := m.Twin().(*flat.Machine)
	if !ok || other == nil || other == m {
		t.Fatalf("14.1: a Twin of %p is %p", m, other)
	}
	return other
}

// 14.1: a Twin goes on while the one it was made of stays, and the other way round.
func TestTwin(t *testing.T) {
	x1 := from(test(code{put(x, 1), load(0, y), add(1, 2, z)}, code{put(y, 1), load(0, x), swap(1, 2, z)}), locs{z: 5}, file{2: 20}, file{2: 30})
	for _, goesTwin := range []bool{true, false} {
		m := begun(t, x1)
		goes(t, m, op(0, 1), op(1, 0))
		other := twin(t, m)
		first, later := m, other
		if goesTwin {
			first, later = other, m
		}
		key, left := m.Key(), []api.Move{op(0, 0), op(0, 2), op(1, 1), op(1, 2)}
		under(t, "14.1: a Twin", other, left...)
		if other.Key() != key {
			t.Errorf("14.1: a Twin's Key is %q, want %q", other.Key(), key)
		}
		goes(t, first, op(0, 2), op(1, 1), op(1, 2), op(0, 0))
		end := []file{{0, 5, 20}, {0, 25, 30}}
		ends(t, "14.1: one that went on", first, locs{1, 1, 30}, end...)
		under(t, "14.1: one that stays", later, left...)
		if later.Key() != key || first.Key() == key {
			t.Errorf("14.1: Keys %q, of the one that went on %q, ahead %q", later.Key(), first.Key(), key)
		}
		goes(t, later, op(1, 2), op(0, 2), op(0, 0), op(1, 1))
		ends(t, "14.1: it goes on later", later, locs{1, 1, 50}, file{0, 30, 20}, file{1, 5, 30})
		ends(t, "14.1: the other stays", first, locs{1, 1, 30}, end...)
	}
}

// 14.1: Twins that choose, and one that dies.
func TestTwinsOfPaths(t *testing.T) {
	m := machine(t, test(code{load(0, x), ifZero(0, 3), put(y, 1)}, code{put(x, 1)}))
	a := twin(t, m)
	goes(t, a, path(0, 0))
	b := twin(t, m)
	goes(t, b, path(0, 1), path(1, 0))
	under(t, "14.1: nothing is chosen", m, path(0, 0), path(0, 1), path(1, 0))
	under(t, "14.1: the first path", a, op(0, 0), path(1, 0))
	under(t, "14.1: the second path", b, op(0, 0), op(1, 0))
	c := twin(t, a)
	goes(t, c, op(0, 0))
	dies(t, "14.1: a Twin", c)
	dies(t, "14.1: a Twin of a dead one", twin(t, c))
	under(t, "14.1: it lives", a, op(0, 0), path(1, 0))
	goes(t, a, path(1, 0), op(1, 0), op(0, 0), op(0, 2))
	ends(t, "14.1: it lives", a, locs{1, 1}, file{1})
	ends(t, "14.1: a Twin of one that is Done", twin(t, a), locs{1, 1}, file{1})
	goes(t, b, op(0, 0), op(1, 0))
	ends(t, "14.1: the second path", b, locs{1}, file{})
	under(t, "14.1: nothing is chosen", m, path(0, 0), path(0, 1), path(1, 0))
}

// 14.1: Twins of drawn walks: each goes on by itself.
func TestManyTwins(t *testing.T) {
	t.Parallel()
	d := dice(175)
	for n := range 1500 {
		x := d.drawn(n)
		type going struct {
			m    *flat.Machine
			gone []api.Move
		}
		all := []going{{m: flat.New(x)}}
		for range 25 {
			k := d.below(len(all))
			if len(all) < 5 && d.below(4) == 0 {
				all = append(all, going{twin(t, all[k].m), slices.Clone(all[k].gone)})
			}
			if can := all[k].m.Moves(); len(can) > 0 {
				next := d.move(can)
				goes(t, all[k].m, next)
				all[k].gone = append(all[k].gone, next)
			}
			for _, g := range all {
				p := behind(x, g.gone)
				holds(t, "14.1: one of some Twins", g.m, p.state())
				moves(t, "14.1: one of some Twins", g.m, p.moves()...)
			}
			if t.Failed() {
				t.Fatalf("%+v", x)
			}
		}
	}
}

// come is a machine behind moves, with the model behind them.
type come struct {
	*flat.Machine
	whole string
}

func reached(t *testing.T, x api.Test, row ...api.Move) come {
	t.Helper()
	m := machine(t, x)
	goes(t, m, row...)
	return come{m, behind(x, row).whole()}
}

// keys is whether two machines of one test, of which it is known whether they
// are in one state, have one Key.
func keys(t *testing.T, what string, m, n come, same bool) {
	t.Helper()
	if (m.whole == n.whole) != same {
		t.Fatalf("%s: the test itself is wrong: %s, %s", what, m.whole, n.whole)
	}
	if (m.Key() == n.Key()) != same {
		t.Errorf("14.1: %s: Keys %q and %q", what, m.Key(), n.Key())
	}
}

// 14.1: Keys of states that are alike, and of states that differ in a path, in
// what was performed, in the order of the row.
func TestKeys(t *testing.T) {
	forked := test(code{load(0, x), ifZero(0, 3), move(1, 1), isb()}, code{load(0, x), ifZero(0, 3), move(1, 1), isb()}, nil)
	keys(t, "both at first", reached(t, forked), reached(t, forked), true)
	keys(t, "paths that were chosen the other way round", reached(t, forked, path(0, 0), path(1, 1)), reached(t, forked, path(1, 1), path(0, 0)), true)
	keys(t, "one path alone", reached(t, forked, path(0, 0)), reached(t, forked, path(0, 1)), false)
	keys(t, "a path, none", reached(t, forked, path(0, 0)), reached(t, forked), false)
	keys(t, "another thread's path", reached(t, forked, path(0, 0)), reached(t, forked, path(1, 0)), false)
	keys(t, "a path of no instructions, none", reached(t, forked, path(2, 0)), reached(t, forked), false)
	keys(t, "two paths, the other way round", reached(t, forked, path(0, 0), path(1, 1)), reached(t, forked, path(0, 1), path(1, 0)), false)
	p, q, a, b := path(0, 0), path(1, 0), op(0, 0), op(0, 1)
	two := test(code{put(x, 1), put(y, 1)}, code{put(x, 2), load(0, y)})
	keys(t, "a path that is chosen later", reached(t, two, p, a, q), reached(t, two, q, p, a), true)
	keys(t, "one performed, none", reached(t, two, p, a), reached(t, two, p), false)
	keys(t, "one performed, another one", reached(t, two, p, a), reached(t, two, p, b), false)
	keys(t, "one performed, another thread's", reached(t, two, p, q, a), reached(t, two, p, q, op(1, 0)), false)
	keys(t, "one performed, one more", reached(t, two, p, q, a), reached(t, two, p, q, a, b), false)
	keys(t, "the order of the row, of one location", reached(t, two, p, q, a, op(1, 0)), reached(t, two, p, q, op(1, 0), a), false)
	keys(t, "the order of the row, of a source", reached(t, two, p, q, b, op(1, 1)), reached(t, two, p, q, op(1, 1), b), false)
	keys(t, "the order of the row, at the end", reached(t, two, p, q, b, op(1, 1), a, op(1, 0)), reached(t, two, p, q, b, op(1, 1), op(1, 0), a), false)
}

// 14.1: Keys of states that differ in what a read took, of one byte alone, while
// locations hold the same.
func TestKeysOfSources(t *testing.T) {
	p, q, r := path(0, 0), path(1, 0), path(2, 0)
	for b := range 8 {
		x1 := test(code{load(0, x)}, code{part(b, 1, put(x, 0))})
		ahead, later := reached(t, x1, p, q, op(0, 0), op(1, 0)), reached(t, x1, p, q, op(1, 0), op(0, 0))
		keys(t, "one byte of Init, or of a write of 0", ahead, later, false)
		holds(t, "they end alike", ahead.Machine, told(later.Machine))
		x1 = test(code{load(0, x)}, code{part(b, 1, put(x, 5))}, code{part(b, 1, put(x, 5))})
		w, v := op(1, 0), op(2, 0)
		ahead, later = reached(t, x1, p, q, r, w, op(0, 0), v), reached(t, x1, p, q, r, w, v, op(0, 0))
		keys(t, "one byte of two writes of one value", ahead, later, false)
		holds(t, "they end alike", ahead.Machine, told(later.Machine))
	}
	// What differs is seen later: the first read is to come.
	x1 := test(code{load(0, x), load(1, x)}, code{put(x, 0)})
	ahead, later := reached(t, x1, p, q, op(0, 1), op(1, 0)), reached(t, x1, p, q, op(1, 0), op(0, 1))
	keys(t, "the later read's source", ahead, later, false)
	under(t, "they have the same move", ahead.Machine, op(0, 0))
	under(t, "they have the same move", later.Machine, op(0, 0))
	goes(t, ahead, op(0, 0))
	goes(t, later, op(0, 0))
	dies(t, "one of them", ahead.Machine)
	ends(t, "the other", later.Machine, locs{})
	// What was handed on, or read in memory.
	x1 = test(code{put(x, 1), load(0, x)}, code{put(x, 1)})
	keys(t, "handed on, or of memory", reached(t, x1, p, q, op(0, 1), op(0, 0)), reached(t, x1, p, q, op(0, 0), op(0, 1)), false)
	keys(t, "handed on, or of memory, another one's", reached(t, x1, p, q, op(0, 0), op(0, 1), op(1, 0)), reached(t, x1, p, q, op(0, 0), op(1, 0), op(0, 1)), false)
}

// apart goes through all states of a test, each as often as it is come to, up to
// where it was gone on from: two must have one Key just if they are one. It tells
// how many there are.
func apart(t *testing.T, x1 api.Test) int {
	t.Helper()
	byKey, byState := map[string]string{}, map[string]string{}
	var onward func(m *flat.Machine, gone []api.Move)
	onward = func(m *flat.Machine, gone []api.Move) {
		key, s := m.Key(), behind(x1, gone).whole()
		if other, is := byKey[key]; is && other != s {
			t.Fatalf("14.1: one Key %q of %s and %s", key, other, s)
		}
		other, is := byState[s]
		if is && other != key {
			t.Fatalf("14.1: Keys %q and %q of one state %s", key, other, s)
		}
		byKey[key], byState[s] = s, key
		if is {
			return
		}
		for pick, move := range m.Moves() {
			next := twin(t, m)
			next.Do(pick)
			onward(next, append(gone[:len(gone):len(gone)], move))
		}
	}
	onward(flat.New(x1), nil)
	return len(byKey)
}

// 14.1: Keys of all states of drawn tests.
func TestManyKeys(t *testing.T) {
	t.Parallel()
	d := dice(176)
	states := 0
	for n := range 400 {
		x := d.drawn(n)
		if n%5 < 2 {
			x = d.right(5)
		}
		states += apart(t, x)
	}
	if states < 20000 {
		t.Errorf("drawn too thin: %d states", states)
	}
}

// R1: what is only asked turns nothing.
func TestAskedOnly(t *testing.T) {
	d := dice(174)
	for n := range 300 {
		x := d.drawn(n)
		m, n := flat.New(x), flat.New(x)
		for len(n.Moves()) > 0 {
			for range 2 {
				m.Key()
				m.Twin()
				m.Done()
				m.Dead()
				m.Outcome()
				m.Moves()
			}
			if m.Key() != n.Key() {
				t.Fatalf("R1: one was asked more: Keys %q and %q", m.Key(), n.Key())
			}
			next := d.move(n.Moves())
			goes(t, m, next)
			goes(t, n, next)
		}
		holds(t, "R1: one was asked more", m, told(n))
	}
}

// R3: a test that is turned behind New turns nothing of the machine; New turns
// nothing of the test.
func TestTurnedTest(t *testing.T) {
	text := `ARM T { x=5; 0:X1=7; 1:X2=2; } P0 | P1 ; LDR X0,[x] | STR X2,[x] ; CBZ X0,L | ISB ; STR X1,[y] | LDADD X2,X3,[y] ; L: LDR X4,[y] | ; exists x=0`
	x1 := parsed(t, text)
	m, n := flat.New(x1), flat.New(parsed(t, text))
	if was, e := litmus.Print(x1); e != api.OK {
		t.Fatal(e)
	} else if now, _ := litmus.Print(parsed(t, text)); was != now {
		t.Errorf("R3: New turned the test to\n%s", was)
	}
	for _, next := range []api.Move{path(0, 0), path(1, 0), op(0, 3), op(1, 0), op(0, 0), op(0, 2), op(1, 2)} {
		for _, c := range x1.Code {
			for at := range c {
				c[at] = put(z, 9)
			}
		}
		x1.Code[0], x1.Code[1] = nil, code{isb()}
		x1.Init, x1.Regs, x1.Cond[0] = locs{9, 9, 9}, [3]file{{9}, {9}, {9}}, api.Cond{}
		holds(t, "R3: the test was turned", m, told(n))
		moves(t, "R3: the test was turned", m, n.Moves()...)
		goes(t, m, next)
		goes(t, n, next)
	}
	ends(t, "R3: the test was turned", m, locs{2, 9}, file{0: 2, 1: 7, 4: 7}, file{2: 2, 3: 7})
}

// R3: codes that share memory, with room behind them, stay as they were.
func TestSharedCodes(t *testing.T) {
	room := code{put(x, 1), load(0, y), put(z, 3), isb(), isb()}
	was := slices.Clone(room)
	codes := []code{room[:2], room[1:3], room[:1], room}
	m := flat.New(test(codes[:3]...))
	for m.Do(0) {
	}
	if !slices.Equal(room, was) || len(codes[2]) != 1 || !slices.Equal(codes[3], was) {
		t.Errorf("R3: the codes were turned to %v", room)
	}
	ends(t, "codes that share memory", m, locs{1, 0, 3})
}

// R3: a list of moves that is turned, or used up to its room, turns nothing.
func TestTurnedMoves(t *testing.T) {
	m := machine(t, test(code{put(x, 1), load(0, y)}, code{unless(7, 2), isb()}, code{load(0, x), load(1, z)}))
	goes(t, m, path(0, 0), path(2, 0), op(2, 0))
	want := []api.Move{op(0, 0), op(0, 1), path(1, 0), path(1, 1), op(2, 1)}
	a, b := m.Moves(), m.Moves()
	for n := range a[:cap(a)] {
		a[:cap(a)][n] = api.Move{Kind: 9, Thread: 9, At: 9, N: 9}
	}
	if !slices.Equal(b, want) || !slices.Equal(b[:cap(b)][len(b):], make([]api.Move, cap(b)-len(b))) {
		t.Errorf("R3: a list of moves that was turned turned another one to %v", b[:cap(b)])
	}
	under(t, "R3: a list of moves was turned", m, want...)
	goes(t, m, path(1, 0))
	if !slices.Equal(b, want) {
		t.Errorf("R3: a list of moves became %v", b)
	}
	under(t, "R3: a list of moves was turned", m, op(0, 0), op(0, 1), op(2, 1))
}

// R9: two machines of one test have nothing in common.
func TestTwoOfOne(t *testing.T) {
	x1 := buffering()
	m, n := flat.New(x1), flat.New(x1)
	goes(t, m, path(0, 0), path(1, 0), op(0, 1), op(1, 0))
	under(t, "R9: another one of the test", n, path(0, 0), path(1, 0))
	goes(t, n, path(1, 0), op(1, 1))
	under(t, "R9: the first one of the test", m, op(0, 0), op(1, 1))
	under(t, "R9: another one of the test", n, path(0, 0), op(1, 0))
	goes(t, m, op(0, 0), op(1, 1))
	ends(t, "R9: the first one of the test", m, locs{1, 1}, file{}, file{1})
	under(t, "R9: another one of the test", n, path(0, 0), op(1, 0))
}

// 14.1: Play goes by Do, in one or in two.
func TestPlay(t *testing.T) {
	m, n := flat.New(buffering()), flat.New(buffering())
	if mach.Play(m, 1, 0, 1, 0, 0, 0, 0) != 6 || mach.Play(n, 1, 0) != 2 || mach.Play(n, 5, 0) != 0 || mach.Play(n, 1, 0, 0, 0) != 4 {
		t.Error("14.1: Play")
	}
	holds(t, "a Play in two", m, told(n))
	if mach.Play(m, math.MaxInt, 0) != 0 || mach.Play(m) != 0 || !m.Done() {
		t.Error("14.1: Play behind the end")
	}
}
