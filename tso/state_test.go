package tso_test

import (
	"math"
	"slices"
	"strconv"
	"strings"
	"testing"

	"belated/api"
	"belated/litmus"
	"belated/mach"
	"belated/tso"
)

// twin is a Twin as what it is.
func twin(t *testing.T, m *tso.Machine) *tso.Machine {
	t.Helper()
	other, ok := m.Twin().(*tso.Machine)
	if !ok || other == nil || other == m || other.Core == m.Core {
		t.Fatalf("14.1: a Twin of %p is %p", m, other)
	}
	return other
}

// 14.1: a Twin goes on while the one it was made of stays, and the other way round.
func TestTwin(t *testing.T) {
	x1 := from(test(code{put(x, 1), load(0, y), add(1, 2, z)}, code{put(y, 1), load(0, x), swap(1, 2, z)}), locs{z: 5}, file{2: 20}, file{2: 30})
	for _, goesTwin := range []bool{true, false} {
		m := tso.New(x1)
		goes(t, m, at(0, 0), at(1, 0), drain(1))
		other := twin(t, m)
		first, later := m, other
		if goesTwin {
			first, later = other, m
		}
		was, key := told(m), m.Key()
		holds(t, "14.1: a Twin", other, was)
		moves(t, "14.1: a Twin", other, m.Moves()...)
		if other.Key() != key {
			t.Errorf("14.1: a Twin's Key is %q, want %q", other.Key(), key)
		}
		goes(t, first, at(0, 1), drain(0), at(0, 2), at(1, 1), at(1, 2))
		moves(t, "14.1: one that went on", first)
		end := state{at: [3]int{3, 3}, Outcome: api.Outcome{Mem: locs{1, 1, 30}, Regs: [3]file{{1, 5, 20}, {1, 25, 30}}}}
		holds(t, "14.1: one that went on", first, end)
		holds(t, "14.1: one that stays", later, was)
		moves(t, "14.1: one that stays", later, at(0, 1), drain(0), at(1, 1))
		if later.Key() != key || first.Key() == key {
			t.Errorf("14.1: Keys %q, of the one that went on %q, ahead %q", later.Key(), first.Key(), key)
		}
		goes(t, later, at(1, 1), at(1, 2), at(0, 1), drain(0), at(0, 2))
		holds(t, "14.1: it goes on later", later, state{at: [3]int{3, 3}, Outcome: api.Outcome{Mem: locs{1, 1, 50}, Regs: [3]file{{1, 30, 20}, {0, 5, 30}}}})
		holds(t, "14.1: the other stays", first, end)
	}
}

// 14.1: what one of two lays behind its buffer does not reach the other's, even
// where that had room left.
func TestTwinsOfBuffers(t *testing.T) {
	x1 := test(code{put(x, 1), put(x, 2), put(x, 3), load(0, y), store(0, z)}, code{put(y, 9)})
	for filled := range 4 {
		for _, twinFirst := range []bool{true, false} {
			m := tso.New(x1)
			for n := range filled {
				goes(t, m, at(0, n))
			}
			a := twin(t, m)
			b := m
			if twinFirst {
				a, b = b, a
			}
			rest := []api.Move{at(0, 0), at(0, 1), at(0, 2)}[filled:]
			goes(t, a, rest...)
			goes(t, a, at(0, 3), at(0, 4))
			goes(t, b, at(1, 0), drain(1))
			goes(t, b, rest...)
			goes(t, b, at(0, 3), at(0, 4))
			for n := range 3 {
				goes(t, a, drain(0))
				holds(t, "14.1: nothing was read", a, state{at: [3]int{5}, buffered: [3]int{3 - n}, Outcome: api.Outcome{Mem: locs{x: n + 1}}})
				goes(t, b, drain(0))
				holds(t, "14.1: 9 was read", b, state{at: [3]int{5, 1}, buffered: [3]int{3 - n}, Outcome: api.Outcome{Mem: locs{n + 1, 9}, Regs: [3]file{{9}}}})
			}
			goes(t, a, drain(0))
			goes(t, b, drain(0))
			if a.Mem(z) != 0 || b.Mem(z) != 9 {
				t.Errorf("14.1: Twins with %d writes wrote %d and %d, want 0 and 9", filled, a.Mem(z), b.Mem(z))
			}
		}
	}
}

// 14.1: Twins of Twins, of one at first, of one that is done.
func TestTwins(t *testing.T) {
	row := []*tso.Machine{tso.New(test(code{put(x, 1), put(x, 2)}))}
	for n := range 5 {
		next := twin(t, row[n])
		if next.Do(0) != (n < 4) {
			t.Errorf("14.1: Do of Twin %d is %v", n, n >= 4)
		}
		row = append(row, next)
	}
	for n, m := range row {
		holds(t, "14.1: in a row of Twins", m, state{at: [3]int{min(n, 2)}, buffered: [3]int{[]int{0, 1, 2, 1, 0, 0}[n]}, Outcome: api.Outcome{Mem: locs{[]int{0, 0, 0, 1, 2, 2}[n]}}})
	}
}

// 14.1: Twins of drawn walks: each goes on by itself.
func TestManyTwins(t *testing.T) {
	t.Parallel()
	d := dice(165)
	for n := range 1500 {
		x := d.tight()
		if n%2 == 0 {
			x = d.right(6)
		}
		type going struct {
			m    *tso.Machine
			gone []api.Move
		}
		all := []going{{m: tso.New(x)}}
		for range 40 {
			k := d.below(len(all))
			if len(all) < 5 && d.below(4) == 0 {
				all = append(all, going{twin(t, all[k].m), slices.Clone(all[k].gone)})
			}
			if can := all[k].m.Moves(); len(can) > 0 {
				next := can[d.below(len(can))]
				goes(t, all[k].m, next)
				all[k].gone = append(all[k].gone, next)
			}
			for _, g := range all {
				p := behind(x, g.gone)
				holds(t, "14.1: one of some Twins", g.m, p.state())
				moves(t, "14.1: one of some Twins", g.m, p.moves()...)
			}
			if t.Failed() {
				t.Fatalf("%+v", x)
			}
		}
	}
}

// come is a machine behind moves, with the model behind them.
type come struct {
	*tso.Machine
	whole string
}

func reached(t *testing.T, x api.Test, row ...api.Move) come {
	t.Helper()
	m := tso.New(x)
	goes(t, m, row...)
	return come{m, behind(x, row).whole()}
}

// keys is whether two machines of one test, of which it is known whether they
// are in one state, have one Key.
func keys(t *testing.T, what string, m, n come, same bool) {
	t.Helper()
	if (m.whole == n.whole) != same {
		t.Fatalf("%s: the test itself is wrong: %s, %s", what, m.whole, n.whole)
	}
	if (m.Key() == n.Key()) != same {
		t.Errorf("14.1: %s: Keys %q and %q", what, m.Key(), n.Key())
	}
}

// alike is whether all that is told of two states is the same: they differ in
// their buffers alone.
func alike(t *testing.T, what string, m, n come) {
	t.Helper()
	if told(m.Machine) != told(n.Machine) || !slices.Equal(m.Moves(), n.Moves()) {
		t.Fatalf("%s: the test itself is wrong: %+v, %+v", what, told(m.Machine), told(n.Machine))
	}
	keys(t, what, m, n, false)
}

// 14.1: Keys of states that are alike, and of states that differ in one thing.
func TestKeys(t *testing.T) {
	x1 := test(code{put(x, 1), isb(), isb()}, code{put(x, 2), isb()})
	a, da, b, db := at(0, 0), drain(0), at(1, 0), drain(1)
	keys(t, "both at first", reached(t, x1), reached(t, x1), true)
	keys(t, "come to by another way", reached(t, x1, a, b), reached(t, x1, b, a), true)
	keys(t, "come to by another way, drained", reached(t, x1, a, b, da, db), reached(t, x1, a, da, b, db), true)
	keys(t, "come to by another way, all done", reached(t, x1, a, b, at(0, 1), at(1, 1), at(0, 2), da, db), reached(t, x1, a, da, b, db, at(1, 1), at(0, 1), at(0, 2)), true)
	keys(t, "one location alone", reached(t, x1, a, b, da, db), reached(t, x1, a, b, db, da), false)
	keys(t, "one index alone", reached(t, x1, a, at(0, 1)), reached(t, x1, a), false)
	keys(t, "one index alone, at the end", reached(t, x1, a, at(0, 1), at(0, 2)), reached(t, x1, a, at(0, 1)), false)
	keys(t, "one index alone, of another thread", reached(t, x1, a, b, at(0, 1)), reached(t, x1, a, b, at(1, 1)), false)
	x2 := test(code{load(0, x), load(1, y)}, code{put(x, 1), put(x, 0)})
	wr := []api.Move{at(1, 0), at(1, 1), drain(1), drain(1)}
	keys(t, "one register alone", reached(t, x2, append([]api.Move{at(0, 0)}, wr...)...), reached(t, x2, slices.Insert(slices.Clone(wr), 3, at(0, 0))...), false)
	keys(t, "what was read is the same", reached(t, x2, append([]api.Move{at(0, 0)}, wr...)...), reached(t, x2, append(wr[:4:4], at(0, 0))...), true)
}

// 14.1: Keys of states that differ in what their buffers hold.
func TestKeysOfBuffers(t *testing.T) {
	a, da, b, db := at(0, 0), drain(0), at(1, 0), drain(1)
	same := from(test(code{put(x, 1)}, code{put(x, 1)}), locs{1})
	keys(t, "one buffered write alone", reached(t, same, a), reached(t, same, a, da), false)
	keys(t, "one buffered write alone, of another thread", reached(t, same, a, b), reached(t, same, a, b, da), false)
	keys(t, "whose write waits", reached(t, same, a, b, da), reached(t, same, a, b, db), false)
	twice := from(test(code{put(x, 1), put(x, 1)}), locs{1})
	keys(t, "one of two", reached(t, twice, a, at(0, 1)), reached(t, twice, a, at(0, 1), da), false)
	keys(t, "either of two that are alike", reached(t, twice, a, at(0, 1), da), reached(t, twice, a, da, at(0, 1)), true)
	// Thread 0 reads 0 or 1, and forgets it; only its buffer keeps it.
	for _, k := range []struct {
		what  string
		row   code
		moves [2][]api.Move
	}{
		{"a value alone", code{load(0, y), store(0, x), konst(0, 0)}, [2][]api.Move{{at(0, 1)}, {at(0, 1)}}},
		{"a byte's value alone", code{load(0, y), part(5, 1, store(0, x)), konst(0, 0)}, [2][]api.Move{{at(0, 1)}, {at(0, 1)}}},
		{"a place alone", code{load(0, y), by(0, part(0, 1, put(x, 1))), konst(0, 0)}, [2][]api.Move{{at(0, 1)}, {at(0, 1)}}},
		{"a size alone", code{load(0, y), ifZero(0, 4), part(0, 2, put(x, 1)), ifZero(1, 5), part(0, 1, put(x, 1)), konst(0, 0)}, [2][]api.Move{{at(0, 4)}, {at(0, 2)}}},
		{"a location alone", code{load(0, y), ifZero(0, 4), put(x, 1), ifZero(1, 5), put(z, 1), konst(0, 0)}, [2][]api.Move{{at(0, 4)}, {at(0, 2)}}},
		{"the order alone", code{load(0, y), ifZero(0, 5), put(x, 1), put(z, 1), ifZero(1, 7), put(z, 1), put(x, 1), konst(0, 0)},
			[2][]api.Move{{at(0, 5), at(0, 6)}, {at(0, 2), at(0, 3)}}},
		{"the order of one location alone", code{load(0, y), ifZero(0, 5), put(x, 1), put(x, 2), ifZero(1, 7), put(x, 2), put(x, 1), konst(0, 0)},
			[2][]api.Move{{at(0, 5), at(0, 6)}, {at(0, 2), at(0, 3)}}},
		{"the order of parts alone", code{load(0, y), ifZero(0, 5), part(0, 1, put(x, 1)), part(0, 4, put(x, 1)), ifZero(1, 7), part(0, 4, put(x, 1)), part(0, 1, put(x, 1)), konst(0, 0)},
			[2][]api.Move{{at(0, 5), at(0, 6)}, {at(0, 2), at(0, 3)}}},
	} {
		x1 := test(k.row, code{put(y, 1)})
		zero := append([]api.Move{b, at(0, 0), db}, k.moves[0]...)
		one := append([]api.Move{b, db, at(0, 0)}, k.moves[1]...)
		alike(t, k.what, reached(t, x1, zero...), reached(t, x1, one...))
	}
}

// 14.1: two that differ in one register, or one location, of all that there are.
func TestKeysOfEach(t *testing.T) {
	for thread := range api.MaxThreads {
		for reg := range api.MaxRegs {
			// The thread reads x ahead of another's write to it, or behind; then x is as it was.
			codes := make([]code, api.MaxThreads)
			codes[thread] = code{load(reg, x)}
			other := (thread + 1) % api.MaxThreads
			codes[other] = code{put(x, 1), put(x, 0)}
			x1 := test(codes...)
			reads, w1, w2, d := at(thread, 0), at(other, 0), at(other, 1), drain(other)
			ahead := reached(t, x1, reads, w1, w2, d, d)
			keys(t, "one register alone", ahead, reached(t, x1, w1, w2, d, reads, d), false)
			keys(t, "what is read twice is the same", ahead, reached(t, x1, w1, w2, d, d, reads), true)
		}
	}
	for loc := range api.MaxLocs {
		for _, v := range odd {
			for _, w := range odd {
				x1 := test(code{put(loc, v)}, code{put(loc, w)})
				keys(t, "one location alone", reached(t, x1, at(0, 0), at(1, 0), drain(0), drain(1)), reached(t, x1, at(0, 0), at(1, 0), drain(1), drain(0)), v == w)
			}
		}
	}
}

// 14.1: no numbers of a Key run on as others do.
func TestKeysOfDigits(t *testing.T) {
	for _, pair := range [][2]int{{1, 11}, {0, 10}, {1, 101}, {1, -1}, {-1, -11}, {5, 15}, {0, 100}, {11, 111}, {-9, 9}, {2, 12}, {0, -10}} {
		a, b := pair[0], pair[1]
		stores := test(code{put(x, a), put(y, a), put(z, a)}, code{put(x, b), put(y, b)})
		// What register 7 of the last thread holds stands ahead of x, what z holds
		// ahead of what waits, if anything does.
		reads := from(test(code{put(y, b), put(x, b)}, code{load(7, y), store(7, z), put(x, a)}), locs{a, a, a})
		places := from(test(code{put(y, b)}, code{load(7, y), by(7, part(0, 1, store(7, x))), by(7, part(0, 2, store(7, x)))}), locs{a, a, a})
		for _, x1 := range []api.Test{stores, reads, places} {
			if n := apart(t, x1); n < 15 {
				t.Errorf("too thin: %d states", n)
			}
		}
	}
}

// 14.1: one write is not two, whatever digits its value has.
func TestKeysOfLongValues(t *testing.T) {
	for digit := range 10 {
		long, err := strconv.Atoi(strings.Join([]string{"5", "0", "255", "7"}, strconv.Itoa(digit)))
		if err != nil {
			t.Fatal(err)
		}
		x1 := test(code{load(0, y), ifZero(0, 5), put(x, 5), put(x, 7), ifZero(1, 6), put(x, long), konst(0, 0)}, code{put(y, 1)})
		one := reached(t, x1, at(1, 0), at(0, 0), drain(1), at(0, 5))
		two := reached(t, x1, at(1, 0), drain(1), at(0, 0), at(0, 2), at(0, 3))
		keys(t, "one write or two", one, two, false)
	}
}

// apart goes through all states of a test, each as often as it is come to, up to
// where it was gone on from: two must have one Key just if they are one. It tells
// how many there are.
func apart(t *testing.T, x1 api.Test) int {
	t.Helper()
	byKey, byState := map[string]string{}, map[string]string{}
	var onward func(m *tso.Machine, gone []api.Move)
	onward = func(m *tso.Machine, gone []api.Move) {
		key, s := m.Key(), behind(x1, gone).whole()
		if other, is := byKey[key]; is && other != s {
			t.Fatalf("14.1: one Key %q of %s and %s", key, other, s)
		}
		other, is := byState[s]
		if is && other != key {
			t.Fatalf("14.1: Keys %q and %q of one state %s", key, other, s)
		}
		byKey[key], byState[s] = s, key
		if is {
			return
		}
		for pick, move := range m.Moves() {
			next := twin(t, m)
			next.Do(pick)
			onward(next, append(gone[:len(gone):len(gone)], move))
		}
	}
	onward(tso.New(x1), nil)
	return len(byKey)
}

// 14.1: Keys of all states of drawn tests.
func TestManyKeys(t *testing.T) {
	t.Parallel()
	d := dice(166)
	states := 0
	for n := range 1500 {
		x := d.tight()
		if n%2 == 0 {
			x = d.right(4)
		}
		states += apart(t, x)
	}
	if states < 20000 {
		t.Errorf("drawn too thin: %d states", states)
	}
}

// R1: what is only asked turns nothing.
func TestAskedOnly(t *testing.T) {
	d := dice(164)
	for range 300 {
		x := d.right(api.MaxCode)
		m, n := tso.New(x), tso.New(x)
		for len(n.Moves()) > 0 {
			for range 2 {
				m.Key()
				m.Twin()
				m.Done()
				m.Outcome()
				m.Mem(d.below(5) - 1)
				m.Buffered(d.below(5) - 1)
				m.Moves()
			}
			if m.Key() != n.Key() {
				t.Fatalf("R1: one was asked more: Keys %q and %q", m.Key(), n.Key())
			}
			can := n.Moves()
			next := can[d.below(len(can))]
			goes(t, m, next)
			goes(t, n, next)
		}
		holds(t, "R1: one was asked more", m, told(n))
	}
}

// R3: a test that is turned behind New turns nothing of the machine; New turns
// nothing of the test.
func TestTurnedTest(t *testing.T) {
	text := `ARM T { x=5; 0:X1=7; 1:X2=2; } P0 | P1 ; LDR X0,[x] | STR X2,[x] ; CBZ X0,L | ISB ; STR X1,[y] | LDADD X2,X3,[y] ; L: LDR X4,[y] | ; exists x=0`
	x1 := parsed(t, text)
	m, n := tso.New(x1), tso.New(parsed(t, text))
	if was, e := litmus.Print(x1); e != api.OK {
		t.Fatal(e)
	} else if now, _ := litmus.Print(parsed(t, text)); was != now {
		t.Errorf("R3: New turned the test to\n%s", was)
	}
	for _, next := range []api.Move{at(0, 0), at(1, 0), at(0, 2), at(1, 1), drain(0)} {
		for _, c := range x1.Code {
			for at := range c {
				c[at] = put(z, 9)
			}
		}
		x1.Code[0], x1.Code[1] = nil, code{isb()}
		x1.Init, x1.Regs, x1.Cond[0] = locs{9, 9, 9}, [3]file{{9}, {9}, {9}}, api.Cond{}
		holds(t, "R3: the test was turned", m, told(n))
		moves(t, "R3: the test was turned", m, n.Moves()...)
		goes(t, m, next)
		goes(t, n, next)
	}
	goes(t, m, drain(1), at(0, 3), at(1, 2))
	holds(t, "R3: the test was turned", m, state{at: [3]int{4, 3}, Outcome: api.Outcome{Mem: locs{2, 9}, Regs: [3]file{{0: 5, 1: 7, 4: 7}, {2: 2, 3: 7}}}})
}

// R3: codes that share memory, with room behind them, stay as they were.
func TestSharedCodes(t *testing.T) {
	room := code{put(x, 1), load(0, y), put(z, 3), isb(), isb()}
	was := slices.Clone(room)
	codes := []code{room[:2], room[1:3], room[:1], room}
	m := tso.New(test(codes[:3]...))
	for m.Do(0) {
	}
	if !slices.Equal(room, was) || len(codes[2]) != 1 || !slices.Equal(codes[3], was) {
		t.Errorf("R3: the codes were turned to %v", room)
	}
	holds(t, "codes that share memory", m, state{at: [3]int{2, 2, 1}, Outcome: api.Outcome{Mem: locs{1, 0, 3}}})
}

// R3: a list of moves that is turned, or used up to its room, turns nothing.
func TestTurnedMoves(t *testing.T) {
	m := tso.New(test(code{isb(), isb()}, code{put(x, 1), isb()}, code{load(0, x), isb()}))
	goes(t, m, at(1, 0))
	want := []api.Move{at(0, 0), at(1, 1), drain(1), at(2, 0)}
	a, b := m.Moves(), m.Moves()
	for n := range a[:cap(a)] {
		a[:cap(a)][n] = api.Move{Kind: 9, Thread: 9, At: 9, N: 9}
	}
	if !slices.Equal(b, want) || !slices.Equal(b[:cap(b)][len(b):], make([]api.Move, cap(b)-len(b))) {
		t.Errorf("R3: a list of moves that was turned turned another one to %v", b[:cap(b)])
	}
	moves(t, "R3: a list of moves was turned", m, want...)
	goes(t, m, drain(1))
	if !slices.Equal(b, want) {
		t.Errorf("R3: a list of moves became %v", b)
	}
	moves(t, "R3: a list of moves was turned", m, at(0, 0), at(1, 1), at(2, 0))
}

// R9: two machines of one test have nothing in common.
func TestTwoOfOne(t *testing.T) {
	x1 := buffering()
	m, n := tso.New(x1), tso.New(x1)
	goes(t, m, at(0, 0), at(1, 0), drain(1), at(0, 1))
	holds(t, "R9: another one of the test", n, state{})
	moves(t, "R9: another one of the test", n, at(0, 0), at(1, 0))
	goes(t, n, at(1, 0), at(1, 1))
	holds(t, "R9: the first one of the test", m, state{at: [3]int{2, 1}, buffered: [3]int{1}, Outcome: api.Outcome{Mem: locs{y: 1}, Regs: [3]file{{1}}}})
	holds(t, "R9: another one of the test", n, state{at: [3]int{0, 2}, buffered: [3]int{0, 1}})
}

// 14.1: Play goes by Do, in one or in two.
func TestPlay(t *testing.T) {
	m, n := tso.New(buffering()), tso.New(buffering())
	if mach.Play(m, 1, 0, 1, 0, 0, 0, 0) != 6 || mach.Play(n, 1, 0) != 2 || mach.Play(n, 5, 0) != 0 || mach.Play(n, 1, 0, 0, 0) != 4 {
		t.Error("14.1: Play")
	}
	holds(t, "a Play in two", m, told(n))
	if mach.Play(m, math.MaxInt, 0) != 0 || mach.Play(m) != 0 || !m.Done() {
		t.Error("14.1: Play behind the end")
	}
}
