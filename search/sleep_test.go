package search_test

import (
	"fmt"
	"slices"
	"testing"

	"belated/api"
	"belated/mach"
	"belated/search"
)

// watched is a machine that keeps a book of what is done, one book of it and all
// its Twins. If it is apart, no two rows of moves come to one Key.
type watched struct {
	mach.Machine
	apart bool
	row   string
	book  *[]string
}

func watch(m mach.Machine, apart bool) *watched { return &watched{m, apart, "", new([]string)} }

func (w *watched) Do(i int) bool {
	move := w.Moves()[i]
	name := fmt.Sprintf("%d.%d.%d.%d", move.Kind, move.Thread, move.At, move.N)
	*w.book = append(*w.book, w.Key()+" "+name)
	w.row += " " + name
	return w.Machine.Do(i)
}

func (w *watched) Key() string {
	if w.apart {
		return w.row
	}
	return w.Machine.Key()
}

func (w *watched) Twin() mach.Machine { return &watched{w.Machine.Twin(), w.apart, w.row, w.book} }

// rule is what 19.3 says, of rows of moves that all come to states of their own.
func rule(x api.Test, m mach.Machine, asleep ...api.Move) {
	asleep = slices.Clone(asleep)
	for pick, move := range m.Moves() {
		if slices.Contains(asleep, move) {
			continue
		}
		twin := m.Twin()
		twin.Do(pick)
		rule(x, twin, slices.DeleteFunc(slices.Clone(asleep), func(a api.Move) bool { return !free(x, a, move) })...)
		asleep = append(asleep, move)
	}
}

// done is what a book says was done, in order.
func done(m mach.Machine, walk func(m mach.Machine), apart bool) []string {
	w := watch(m, apart)
	walk(w)
	slices.Sort(*w.book)
	return *w.book
}

// 19.3: how many moves Sleep does of small tests, of rows that come to states of
// their own; and how many there are.
func TestHowMuchSleeps(t *testing.T) {
	isbs := test(code{isb()}, code{isb()}, code{isb()})
	all := kinds()
	sc, tso, flat := all[0], all[1], all[2]
	for _, k := range []struct {
		what         string
		kind         kind
		x            api.Test
		sleep, whole int
	}{
		{"three ISBs", sc, isbs, 7, 15},
		{"three ISBs", tso, isbs, 7, 15},
		{"three paths", flat, isbs, 7, 15},
		{"loads of x", sc, test(code{load(0, x)}, code{load(0, x)}), 3, 4},
		{"a load and a store of x", sc, test(code{load(0, x)}, code{put(x, 1)}), 4, 4},
		{"a load and a store of x and y", sc, test(code{load(0, x)}, code{put(y, 1)}), 3, 4},
		{"read-modify-writes of x", sc, test(code{swap(0, 1, x)}, code{swap(0, 1, x)}), 4, 4},
		{"a fence and a store", sc, test(code{fence(3, 3)}, code{put(y, 1)}), 3, 4},
		{"a store and an ISB", tso, test(code{put(x, 1)}, code{isb()}), 5, 8},
		{"an ISB and a store", tso, test(code{isb()}, code{put(x, 1)}), 5, 8},
		{"a store and a load", tso, test(code{put(x, 1)}, code{load(0, y)}), 6, 8},
		{"stores of x and y", tso, test(code{put(x, 1)}, code{put(y, 1)}), 13, 18},
		{"one thread", tso, test(code{put(x, 1), load(0, x)}), 5, 5},
		{"a load and a store of x, out of order", flat, test(code{load(0, x)}, code{put(x, 1)}), 9, 18},
		{"a load and a store of x and y, out of order", flat, test(code{load(0, x)}, code{put(y, 1)}), 8, 18},
		{"nothing", sc, test(), 0, 0},
	} {
		slept := done(k.kind.make(k.x), func(m mach.Machine) { search.Sleep(k.x, m) }, true)
		whole := done(k.kind.make(k.x), func(m mach.Machine) { search.All(m) }, true)
		if len(slept) != k.sleep || len(whole) != k.whole {
			t.Errorf("19.3: %s of %s: Sleep does %d, All %d moves, want %d and %d", k.kind.name, k.what, len(slept), len(whole), k.sleep, k.whole)
		}
	}
}

// 19.3: of drawn tests just those moves are done that the rule lets be done; none
// is done that sleeps. 19.1: without sleep all are.
func TestWhatSleeps(t *testing.T) {
	t.Parallel()
	d := dice(196)
	tests, less := 0, 0
	for n := range 600 {
		x := d.drawn(n)
		if steps(x) > 7 {
			continue
		}
		tests++
		for _, k := range kinds() {
			m := k.make(x)
			d.midst(m, d.below(3))
			slept := done(m, func(m mach.Machine) { search.Sleep(x, m) }, true)
			if want := done(m, func(m mach.Machine) { rule(x, m) }, true); !slices.Equal(slept, want) {
				t.Fatalf("19.3: %s: Sleep does\n %q, want\n %q: %+v", k.name, slept, want, x)
			}
			whole := done(m, func(m mach.Machine) { search.All(m) }, true)
			if want := done(m, func(m mach.Machine) { ends(m, false) }, true); !slices.Equal(whole, want) {
				t.Fatalf("19.1: %s: All does\n %q, want\n %q: %+v", k.name, whole, want, x)
			}
			if len(slept) < len(whole) {
				less++
			}
		}
	}
	if tests < 150 || less < 200 {
		t.Errorf("drawn too thin: %d small tests, something sleeps of %d machines", tests, less)
	}
}

// 19.1, 19.3: where rows come to one state again, no move of it is done twice, and
// Sleep does none that All does not.
func TestNothingIsDoneTwice(t *testing.T) {
	t.Parallel()
	d := dice(197)
	less, again := 0, 0
	for n := range 500 {
		x := d.drawn(n)
		for _, k := range kinds() {
			slept := done(k.make(x), func(m mach.Machine) { search.Sleep(x, m) }, false)
			whole := done(k.make(x), func(m mach.Machine) { search.All(m) }, false)
			if len(slices.Compact(slices.Clone(slept))) != len(slept) || len(slices.Compact(slices.Clone(whole))) != len(whole) {
				t.Fatalf("R8: %s: a move of a state is done twice: %+v", k.name, x)
			}
			if len(slept) < len(whole) {
				less++
			}
			within := slices.Compact(slices.Sorted(slices.Values(slices.Concat(slept, whole))))
			if !slices.Equal(within, whole) {
				t.Fatalf("19.3: %s: Sleep does what All does not: %+v", k.name, x)
			}
			if k.name != "flat" && len(x.Code) > 1 {
				again++
			}
		}
	}
	if less < 500 || again < 400 {
		t.Errorf("drawn too thin: something sleeps of %d machines, %d come to states again", less, again)
	}
}

// 19.3: the states of a grid, which are Done here and there, with moves that may be
// done in any order: each is come to with other moves asleep, on many ways.
func TestSleepOfGrids(t *testing.T) {
	d := dice(198)
	for range 400 {
		x := test(make([]code, api.MaxThreads)...)
		g := &grid{ends: [3]int{d.below(4), d.below(4), d.below(4)}, done: map[locs]bool{}}
		for range 1 + d.below(20) {
			g.done[locs{d.below(4), d.below(4), d.below(4)}] = true
		}
		comes(t, "a grid", x, g, byKeys(g)...)
		reaches(t, "a grid", g, byKeys(g)...)
		less := test(make([]code, d.below(api.MaxThreads))...) // so that fewer are Free
		comes(t, "a grid", less, g, byKeys(g)...)
		if t.Failed() {
			t.Fatalf("of the grid %+v", g)
		}
	}
}

// grid is a machine of three threads that each choose paths, so many times. Some
// of its states are Done, and some of these have moves.
type grid struct {
	at   locs
	ends [3]int
	done map[locs]bool
}

func (g *grid) Moves() []api.Move {
	var moves []api.Move
	for thread, end := range g.ends {
		if g.at[thread] < end {
			moves = append(moves, path(thread, g.at[thread]))
		}
	}
	return moves
}

func (g *grid) Do(i int) bool {
	moves := g.Moves()
	if i < 0 || i >= len(moves) {
		return false
	}
	g.at[moves[i].Thread]++
	return true
}

func (g *grid) Done() bool           { return g.done[g.at] }
func (g *grid) Outcome() api.Outcome { return api.Outcome{Mem: g.at} }
func (g *grid) Key() string          { return fmt.Sprint(g.at) }

func (g *grid) Twin() mach.Machine {
	twin := *g
	return &twin
}
